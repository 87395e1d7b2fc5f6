/- bitmat.Solve. -/
import Derived.Test.YtgaanojfjaifhaaBRank
namespace Go.Proofs.Ytgaanojfjaifhaa.B
open Go Go.RowKit Go.Shelf
open BM (St)

/-- The right sides are the elements of v. -/
def rhs (v : V) (j : Nat) : V := b1 (BM.bt v j)
/-- A row that has no pivot has the right side 1. -/
def sing (m : Nat) (s : St) : Bool := (List.range m).any (fun j => decide (s.P.length ≤ j) && ((s.r j).toNat == 1))
theorem sing_iff (m : Nat) (s : St) : sing m s = true ↔ ∃ j, s.P.length ≤ j ∧ j < m ∧ (s.r j).toNat = 1 := by
  unfold sing
  rw [List.any_eq_true]
  constructor
  · rintro ⟨j, hj, h⟩
    rw [Bool.and_eq_true, decide_eq_true_eq, beq_iff_eq] at h
    exact ⟨j, h.1, List.mem_range.1 hj, h.2⟩
  · rintro ⟨j, h1, h2, h3⟩
    exact ⟨j, List.mem_range.2 h2, by rw [Bool.and_eq_true, decide_eq_true_eq, beq_iff_eq]; exact ⟨h1, h3⟩⟩
/-- The least solution, of the first k pivots. -/
def lst (r : Nat → V) (P : Nat → Nat) : Nat → V
  | 0 => 0
  | k + 1 => lst r P k ||| r k <<< P k
def solveE (C : Int) (R : List V) (v : V) : Int := if validB C R then (if fitB v R.length then (if sing R.length (sv C.toNat R (rhs v)) then 6 else 0) else 7) else 1
def solveV (C : Int) (R : List V) (v : V) : V := if solveE C R v = 0 then lst (sv C.toNat R (rhs v)).r (el (sv C.toNat R (rhs v)).P) (sv C.toNat R (rhs v)).P.length else 0

theorem step_piv {m c : Nat} {s : St} {K : Nat} (h : ∀ j, j < s.P.length → el s.P j < K) (hc : c < K) : ∀ j, j < (BM.step m c s).P.length → el (BM.step m c s).P j < K := by
  unfold BM.step
  by_cases hp : BM.piv m c s < m
  · rw [if_pos hp]
    intro j hj
    have hj' : j < (s.P ++ [c]).length := hj
    rw [List.length_append] at hj'
    show el (s.P ++ [c]) j < K
    rw [el_append]
    by_cases h1 : j < s.P.length
    · rw [if_pos h1]; exact h j h1
    · rw [if_neg h1]
      simp only [List.length_cons, List.length_nil] at hj'
      rw [show j - s.P.length = 0 by omega]
      exact hc
  · rw [if_neg hp]; exact h
theorem run_piv (m : Nat) (R r : Nat → V) : ∀ C, ∀ j, j < (BM.run m ⟨R, r, []⟩ C).P.length → el (BM.run m ⟨R, r, []⟩ C).P j < C
  | 0, j, hj => by simp [BM.run] at hj
  | C + 1, j, hj => step_piv (K := C + 1) (fun i hi => Nat.lt_succ_of_lt (run_piv m R r C i hi)) (Nat.lt_succ_self C) j hj
theorem sv_piv (C : Nat) (R : List V) (r : Nat → V) : ∀ j, j < (sv C R r).P.length → el (sv C R r).P j < C := run_piv _ _ _ C

def SolveCut (w : World) (D : Nat) (R : List V) (r : Nat → V) (v : Value) (W : World) : Prop :=
  ∃ g gr cr gx cx, v = .pointer (some ⟨g, 0, none⟩) ∧ Sys W (w.heap.size + 1) g R.length D gr cr gx cx (sv D R r) ∧ Below w.heap.size w W
def RhsRel (w2 : World) (n : Nat) (v : V) (i : Value) (W : World) : Prop :=
  ∃ k : Nat, i = .int .i64 (k : Int) ∧ k ≤ n ∧ Own W w2.heap.size (.slice (some ⟨w2.heap.size, 0, none⟩) n n) (tab n (fun j => if j < k then rhs v j else 0)) ∧ Below w2.heap.size w2 W

set_option maxRecDepth 100000 in
set_option maxHeartbeats 1000000 in
/-- **bitmat.Solve** -/
theorem solve_any (C : Int) (a : Option Addr) (ca : Nat) (R : List V) (v : V) (w : World) (hA : Row w a R ca) :
    Calls Try.prog 29 #[.agg #[.int .i64 C, .slice a R.length ca], .int .u64 (v.toNat : Int)] w fun e W => e = .returned (.tuple #[.int .u64 ((solveV C R v).toNat : Int), .int .i64 (solveE C R v)]) ∧ Below w.heap.size w W := by
  have hroom := hA.room
  have hmost := hA.most
  have hbx := MBox.new w C a R.length ca 24
  have hb1 := (Below.refl w.heap.size w).alloc (Nat.le_refl _) (.cells #[.int .i64 C, .slice a R.length ca] 24)
  have hr1 := hA.alloc (.cells #[.int .i64 C, .slice a R.length ca] 24)
  obtain ⟨w1, hw1⟩ : ∃ w1, w.alloc (.cells #[.int .i64 C, .slice a R.length ca] 24) = w1 := ⟨_, rfl⟩
  have hs1 : w1.heap.size = w.heap.size + 1 := by rw [← hw1]; simp
  rw [hw1] at hbx hb1 hr1
  have hv1 := valid_any C a ca R w1 hr1
  have a0 := hbx.c0
  have a1 := hbx.c1
  have HBX := Lib.hid hbx
  have HB1 := Lib.hid hb1
  have HR1 := Lib.hid hr1
  have HS1 := Lib.hid hs1
  clear hA hbx hb1 hr1 hs1
  cases hva : validB C R with
  | false =>
    have e0 : solveE C R v = 1 := by unfold solveE; rw [hva]; rfl
    have e1 : solveV C R v = 0 := by unfold solveV; rw [e0]; rfl
    rw [e0, e1]
    rw [hva] at hv1
    have H1 := Lib.hid hv1
    clear hv1 hva e0 e1
    go_enter Try.func29, Try.ntmps29
    go_wp2_with fail
    refine H1.out.mono ?_
    rintro e w2 ⟨rfl, hb2⟩
    have HB2 := Lib.hid (HB1.out.trans (hb2.mono HB1.out.size))
    clear hb2
    go_wp2_with fail
    exact bodyPost_ret (v := .tuple #[.int .u64 0, .int .i64 1]) (by simp [results, Try.results29, go_sem]) rfl ⟨rfl, HB2.out⟩
  | true =>
    obtain ⟨D, rfl, hM⟩ := MV.of hva
    rw [hva] at hv1
    have H1 := Lib.hid hv1
    have l1 := hM.r1
    have l2 := hM.r2
    have l4 := hM.c2
    cases hf : fitB v R.length with
    | false =>
      have e0 : solveE D R v = 7 := by unfold solveE; rw [hva, hf]; rfl
      have e1 : solveV D R v = 0 := by unfold solveV; rw [e0]; rfl
      rw [e0, e1]
      have hfi := fun W => fits_any v R.length W
      rw [hf] at hfi
      have HFI := Lib.hid hfi
      clear hv1 hva e0 e1 hfi hf
      go_enter Try.func29, Try.ntmps29
      go_wp2_with fail
      refine H1.out.mono ?_
      rintro e w2 ⟨rfl, hb2⟩
      have HB2 := Lib.hid (HB1.out.trans (hb2.mono HB1.out.size))
      have d1 := cell_below hb2 a1
      clear hb2
      go_wp2_with fail
      refine (HFI.out w2).mono ?_
      rintro e w3 ⟨rfl, hw⟩
      obtain rfl := hw.symm
      go_wp2_with fail
      exact bodyPost_ret (v := .tuple #[.int .u64 0, .int .i64 7]) (by simp [results, Try.results29, go_sem]) rfl ⟨rfl, HB2.out⟩
    | true =>
      have hfi := fun W => fits_any v R.length W
      rw [hf] at hfi
      have HFI := Lib.hid hfi
      have e0 : solveE D R v = if sing R.length (sv D R (rhs v)) then 6 else 0 := by unfold solveE; rw [hva, hf, Int.toNat_natCast]; rfl
      have E0 := Lib.hid e0
      clear hv1 hva hfi hf e0
      go_enter Try.func29, Try.ntmps29
      go_wp2_with fail
      refine H1.out.mono ?_
      rintro e w2 ⟨rfl, hb2⟩
      have HB2 := Lib.hid (HB1.out.trans (hb2.mono HB1.out.size))
      have HR2 := Lib.hid (HR1.out.below hb2)
      have HBX2 := Lib.hid (HBX.out.below hb2)
      have hs2 := hb2.size
      have d1 := cell_below hb2 a1
      clear hb2 a0 a1
      go_wp2_with fail
      refine (HFI.out w2).mono ?_
      rintro e w3 ⟨rfl, hw⟩
      obtain rfl := hw.symm
      go_wp2_with (at_make; refine wpList_make1 (α := V) rfl _ _ rfl R.length rfl rfl rfl (by omega) (B := w2.heap.size) (Nat.le_refl _) ?_; intro w4 hown4 hb4; have HO4 := Lib.hid hown4; have HB4 := Lib.hid hb4; clear hown4 hb4)
      go_loopw [7, 28] (fun _ i wr => RhsRel w2 R.length v i wr) (fun _ i _ => R.length - (intOf i).toNat)
      case atStart => exact ⟨0, rfl, Nat.zero_le _, by have := HO4.out; rw [tab_begin (f := rhs v)] at this; exact this, HB4.out⟩
      case round =>
        clear HO4 HB4
        obtain ⟨k, rfl, hk, ho, hB⟩ := hrel
        have HO := Lib.hid ho
        have HB := Lib.hid hB
        by_cases hlt : k < R.length
        · have hc := ho.cellV k (by rw [tab_len]; exact hlt)
          have hfr := ho.free k (by rw [tab_len]; exact hlt)
          have HBI := Lib.hid (bit_any v k wr)
          clear ho hB
          go_wp2_with fail
          refine HBI.out.mono ?_
          rintro e w5 ⟨rfl, hw⟩
          obtain rfl := hw.symm
          go_wp2_with fail
          go_roundw
          case rel =>
            refine ⟨k + 1, by go_num, hlt, ?_, HB.out.setCell (p := ⟨w2.heap.size, k, none⟩) (Nat.le_refl _) _⟩
            have := HO.out.setV k (rhs v k)
            rwa [tab_step (f := rhs v) (y := rhs v k) rfl] at this
          case measure => simp [intOf]; omega
        · obtain rfl : k = R.length := by omega
          have ho' := ho
          rw [tab_done] at ho'
          have hbb : Below w2.heap.size w2 wr := hB
          have b0 := (HBX2.out.below hbb).c0
          have b1 := (HBX2.out.below hbb).c1
          have hsl := solved_at wr w2.heap.size D w2.heap.size R.length a ca R (rhs v) rfl hB.size l4 l1 l2 (HR2.out.below hbb) ho'
          have HSL := Lib.hid hsl
          have HBB := Lib.hid (HB2.out.trans (hbb.mono HB2.out.size))
          clear ho hB ho' hbb hsl HO HB d1
          go_wp2_with fail
          refine HSL.out.mono ?_
          rintro e w6 ⟨⟨g, gr, cr, rfl, hS⟩, hb6⟩
          have HB6 := Lib.hid (HBB.out.trans (hb6.mono HB2.out.size))
          have c2 := hS.c2
          obtain ⟨ap, cp, c3, hp, hp1, hp2⟩ := hS.pivots
          obtain ⟨x1, x2, x3, x4⟩ := hS.room
          have hlen := sv_len D R (rhs v)
          have HPL := Lib.hid (sv_piv D R (rhs v))
          obtain ⟨s, hs⟩ : ∃ s, sv D R (rhs v) = s := ⟨_, rfl⟩
          rw [hs] at hS c3 hp hp1 hlen HPL E0
          have HSV := Lib.hid hs
          have HSY := Lib.hid hS
          have HPR := Lib.hid hp
          obtain ⟨n, hn⟩ : ∃ n, s.P.length = n := ⟨_, rfl⟩
          rw [hn] at c3 hp1 hlen
          have HN := Lib.hid hn
          clear hS hp hn hs hb6 HSL b0 b1
          have hcall : ∀ W : World, W.heap = w6.heap → (R.length = n → ∀ ad : Option Addr, Calls Try.prog 43 #[.slice ad 0 0, .func (.func 42) #[] #[]] W fun e w' => e = .returned (.bool (sing R.length s)) ∧ w' = W) ∧
              (¬ R.length = n → Calls Try.prog 43 #[.slice (some ⟨w2.heap.size, n, none⟩) (R.length - n) (R.length - n), .func (.func 42) #[] #[]] W fun e w' => e = .returned (.bool (sing R.length s)) ∧ w' = W) := fun W hW => by
            constructor
            · intro e ad
              refine (containsOne_any ad 0 [] W (Row.nil _ _ _ (by omega))).mono ?_
              rintro e w' ⟨⟨b, rfl, hb⟩, hw⟩
              refine ⟨ret_bool ?_, hw⟩
              have h2 : sing R.length s = false := by
                cases h3 : sing R.length s with
                | false => rfl
                | true =>
                  obtain ⟨j, q1, q2, _⟩ := (sing_iff _ _).1 h3
                  rw [HN.out] at q1
                  omega
              rw [h2]
              cases b with
              | false => rfl
              | true =>
                obtain ⟨j, q1, _⟩ := hb.1 rfl
                exact absurd q1 (Nat.not_lt_zero j)
            · intro e
              have hrow : Row W (some ⟨w2.heap.size, 0 + n, none⟩) ((tab R.length s.r).drop n) (R.length - n) := by
                have h := HSY.out.right.rowAt.dropped n (by rw [tab_len]; exact hlen)
                exact ⟨h.room, h.most, fun j hj => by
                  obtain ⟨b, o, q1, q2⟩ := h.el j hj
                  exact ⟨b, o, q1, by rw [World.cell?_of_block (show W.heap[b]? = w6.heap[b]? by rw [hW])]; exact q2⟩⟩
              rw [Nat.zero_add] at hrow
              have hll : ((tab R.length s.r).drop n).length = R.length - n := by rw [List.length_drop, tab_len]
              have := containsOne_any _ (R.length - n) _ W hrow
              rw [hll] at this
              refine this.mono ?_
              rintro e w' ⟨⟨b, rfl, hb⟩, hw⟩
              refine ⟨ret_bool ?_, hw⟩
              have hel : ∀ j, j < R.length - n → el ((tab R.length s.r).drop n) j = s.r (n + j) := fun j hj => by rw [el_drop, el_tab _ _ _ (by omega)]
              rw [Bool.eq_iff_iff, hb, sing_iff]
              constructor
              · rintro ⟨j, q1, q2⟩
                rw [hel j q1] at q2
                exact ⟨n + j, by rw [HN.out]; omega, by omega, by omega⟩
              · rintro ⟨j, q1, q2, q3⟩
                rw [HN.out] at q1
                refine ⟨j - n, by omega, ?_⟩
                rw [hel _ (by omega), show n + (j - n) = j by omega]
                omega
          have HCALL := Lib.hid hcall
          clear hcall
          go_upto_region 13 with fail
          go_cut [52] (fun s52 wx => s52 = .bool (sing R.length s) ∧ ∃ k, wx = w6.drewN k)
          case first =>
            have hc1 := (HCALL.out w6.drew rfl).1
            have hc2 := (HCALL.out w6.drew rfl).2
            by_cases hcn : R.length = n
            · have HC := Lib.hid (hc1 hcn)
              clear hc1 hc2
              subst hcn
              go_region_law (go_simp; go_at_call 43; (with_reducible refine (HC.out _).mono ?_); rintro e w7 ⟨rfl, hw⟩; obtain rfl := hw.symm; go_simp)
              all_goals (
                go_wp2_with fail
                go_meet
                exact ⟨by first | rfl | trivial, 1, rfl⟩)
            · have HC := Lib.hid (hc2 hcn)
              clear hc1 hc2
              go_region_law (go_simp; go_at_call 43; (with_reducible refine HC.out.mono ?_); rintro e w7 ⟨rfl, hw⟩; obtain rfl := hw.symm; go_simp)
              all_goals (
                go_wp2_with fail
                go_meet
                exact ⟨by first | rfl | trivial, 1, rfl⟩)
          case rest =>
            obtain ⟨rfl, kd, rfl⟩ := hcut
            have HB7 := Lib.hid (belowN HB6.out kd)
            have S7 := HSY.out.drewN kd
            have c2' := S7.c2
            have c3' : (w6.drewN kd).cell? ⟨g, 3, none⟩ = some (.slice ap n cp) := c3
            have HS7 := Lib.hid S7
            have HP7 := Lib.hid (HPR.out.drewN kd)
            obtain ⟨w7, hw7⟩ : ∃ w7, w6.drewN kd = w7 := ⟨_, rfl⟩
            rw [hw7] at HB7 HS7 HP7 c2' c3' ⊢
            clear HCALL S7 c2 c3 hw7 HSY HPR HB6
            cases hsg : sing R.length s with
            | true =>
              have e1 : solveE D R v = 6 := by rw [E0.out, hsg, if_pos rfl]
              have e2 : solveV D R v = 0 := by unfold solveV; rw [e1]; rfl
              have E1 := Lib.hid e1
              have E2 := Lib.hid e2
              clear e1 e2 hsg
              go_wp2_with fail
              exact bodyPost_ret (v := .tuple #[.int .u64 0, .int .i64 6]) (by simp [results, Try.results29, go_sem]) rfl ⟨by rw [E1.out, E2.out]; rfl, HB7.out⟩
            | false =>
              have e1 : solveE D R v = 0 := by rw [E0.out, hsg]; rfl
              have e2 : solveV D R v = lst s.r (el s.P) n := by unfold solveV; rw [if_pos e1, Int.toNat_natCast, HSV.out, HN.out]
              have E1 := Lib.hid e1
              have E2 := Lib.hid e2
              clear e1 e2 hsg
              go_wp2_with fail
              go_loopw [10, 11, 12, 58] (fun x _ _ i wr => ∃ k : Nat, i = .int .i64 (k : Int) ∧ k ≤ n ∧ x = .int .u64 ((lst s.r (el s.P) k).toNat : Int) ∧ wr = w7) (fun _ _ _ i _ => n - (intOf i).toNat)
              case atStart => exact ⟨0, rfl, Nat.zero_le _, rfl, rfl⟩
              case round =>
                obtain ⟨k, rfl, hk, rfl, rfl⟩ := hrel
                by_cases hlt : k < n
                · obtain ⟨b, off, rfl, hcell⟩ := HP7.out.elN k (by rw [HN.out]; exact hlt)
                  have hpl := HPL.out k (by rw [HN.out]; exact hlt)
                  have hr := (HS7.out.cellX k (by omega)).1
                  go_wp2_with fail
                  go_roundw
                  case rel =>
                    refine ⟨k + 1, by go_num, hlt, u64_v ?_, by first | rfl | trivial⟩
                    rw [shl_V, or_V]
                    rfl
                  case measure => simp [intOf]; omega
                · obtain rfl : k = n := by omega
                  go_wp2_with fail
                  exact bodyPost_ret (v := .tuple #[.int .u64 ((lst s.r (el s.P) k).toNat : Int), .int .i64 0]) (by simp [results, Try.results29, go_sem]) rfl ⟨by rw [E1.out, E2.out], HB7.out⟩
end Go.Proofs.Ytgaanojfjaifhaa.B
