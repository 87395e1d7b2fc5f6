/- The reference's Parse. -/
import Derived.Test.YtneimnacanhjmaaDoorBRefMul
import Derived.Test.YtneimnacanhjmaaDoorB10
import Derived.Test.YtneimnacanhjmaaDoorBParse
import Derived.Test.YtneimnacanhjmaaDoorBNumBad
namespace Go.Proofs.YtneimnacanhjmaaDoor
open Go Go.RowKit Go.Shelf

set_option maxRecDepth 100000 in
set_option maxHeartbeats 1000000 in
/-- **ref01.fit** of nil. -/
theorem rfit_none (w : World) :
    Calls Tryd.prog 73 #[.slice none 0 0] w fun e W' => NatFit w.heap.size 0 e W' ∧ Below w.heap.size w W' := by
  have hb := (Below.refl _ w).alloc (Nat.le_refl _) (.cells #[.slice none 0 0] 24)
  have HB := Lib.hid hb
  have c2 := cell_new w (.slice none 0 0) 24
  have f2 := frozen_new w (.slice none 0 0) 24
  have hdn : (M.dig 0).length = 0 := by rw [M.dig_zero]; rfl
  clear hb
  go_enter Tryd.func73, Tryd.ntmps73
  go_wp2_with fail
  go_loop [4] (fun i => i = .int .i64 0) (fun _ => 0)
  case atStart => rfl
  case round =>
    obtain rfl := hrel
    go_wp2_with (at_builtin; refine wpList_appAny (zs := []) (ys := []) rfl _ _ rfl rfl (Own.nil _ (w.heap.size + 1)) rfl ⟨Nat.le_refl _, by omega, fun j hj => by simp at hj⟩ (by simp) (by simp) ?_; intro a' cap' W' hown' hb'; have d2 := (hb'.cell (p := ⟨w.heap.size, 0, none⟩) (by simp)).trans c2; have g2 := (hb'.frozen (p := ⟨w.heap.size, 0, none⟩) (by simp)).trans f2)
    have hn := (hown'.setBelow (p := ⟨w.heap.size, 0, none⟩) (by simp) (.slice a' 0 cap'))
    refine bodyPost_ret (v := .tuple #[.agg #[.slice a' 0 cap'], .int .i64 0]) (by simp [results, Tryd.results73, go_sem, d2]) rfl ⟨by unfold NatFit; rw [if_pos (by rw [M.dig_zero]; simp)]; exact ⟨_, rfl, a', cap', by rw [hdn], by rw [M.dig_zero]; exact hn.rowAt, fun b off e hl => by rw [M.dig_zero] at hl; simp at hl⟩, ?_⟩
    exact (HB.out.trans (hb'.mono (by omega))).setCell (p := ⟨w.heap.size, 0, none⟩) (Nat.le_refl _) _

theorem rfit_any {B : Nat} {v : Value} {zs : List Int} {n : Nat} {w : World} (h : Own w B v zs) (ht : M.trimL zs = M.dig n) :
    Calls Tryd.prog 73 #[v] w fun e W' => NatFit w.heap.size n e W' ∧ Below w.heap.size w W' := by
  rcases h.parts with ⟨rfl, rfl⟩ | ⟨g, cap, rfl, _⟩
  · have : n = 0 := by
      have e : M.trimL [] = [] := rfl
      rw [e] at ht
      exact M.dig_nil.1 ht.symm
    subst this
    exact rfit_none w
  · exact rfit_trim g 0 zs cap n w h.rowAt ht

/-- What Parse answers. -/
def PaPost (s : ByteArray) (e : Ending) (W : World) : Prop :=
  (decB s = true ∧ NatRes (dval s.data.toList) e W) ∨ (decB s = false ∧ e = .returned (.tuple #[.agg #[.slice none 0 0], .int .i64 12]))

def RpaRel (w : World) (s : ByteArray) (l i : Value) (W : World) : Prop :=
  ∃ (k : Nat) (a : Option Addr) (cap : Nat) (zs : List Int), i = .int .i64 (k : Int) ∧ k ≤ s.size ∧ l = .slice a zs.length cap ∧ (s.data.toList.take k).all digB = true ∧ Own W (w.heap.size + 1) (.slice a zs.length cap) zs ∧ M.Lim zs ∧ M.val zs = dval (s.data.toList.take k) ∧ zs.length ≤ k ∧ Below (w.heap.size + 1) (w.alloc (.cells #[.slice none 0 0] 24)) W

def RpaIn (B : Nat) (a : Option Addr) (cap : Nat) (zs : List Int) (d : Nat) (w1 : World) (c i : Value) (W : World) : Prop :=
  ∃ (q : Nat) (y : Int) (ys : List Int), i = .int .i64 (q : Int) ∧ c = .int .i64 y ∧ q ≤ zs.length ∧ 0 ≤ y ∧ y < 10 ∧ ys.length = zs.length ∧ M.Lim ys ∧ (∀ j, q ≤ j → M.el ys j = M.el zs j) ∧ M.val ys + 16777216 ^ q * y = M.val zs + d + 9 * M.val (zs.take q) ∧ Own W B (.slice a zs.length cap) ys ∧ Below B w1 W

theorem par_step {A V T P e c u q : Int} (h : A + P * c = V + T) (hu : u + 16777216 * q = e * 10 + c) : A + P * (u - e) + P * 16777216 * q = V + (T + 9 * (P * e)) := by
  have h1 : P * (u - e) + P * 16777216 * q = P * (u + 16777216 * q - e) := by
    rw [Int.mul_sub, Int.mul_sub, Int.mul_add, Int.mul_assoc]; omega
  have h2 : P * (u + 16777216 * q - e) = 9 * (P * e) + P * c := by
    rw [hu, show e * 10 + c - e = 9 * e + c by omega, Int.mul_add, ← Int.mul_assoc, Int.mul_comm P 9, Int.mul_assoc]
  omega

set_option maxRecDepth 100000 in
set_option maxHeartbeats 2000000 in
theorem rparse_any (s : ByteArray) (w : World) (hs : s.size ≤ 1445) :
    Calls Tryd.prog 38 #[.string s] w fun e W' => PaPost s e W' ∧ Below w.heap.size w W' := by
  have c0 := cell_new w (.slice none 0 0) 24
  have f0 := frozen_new w (.slice none 0 0) 24
  by_cases hz : s.size = 0
  · have hd : decB s = false := dec_none (by rw [toList_data]; exact List.length_eq_zero_iff.1 hz)
    have hz1 : (s.size : Int) = 0 := by omega
    have HD := Lib.hid hd
    clear hd
    go_enter Tryd.func38, Tryd.ntmps38
    go_wp2_with fail
    exact bodyPost_ret (v := .tuple #[.agg #[.slice none 0 0], .int .i64 12]) (by simp [results, Tryd.results38, go_sem]) rfl ⟨.inr ⟨HD.out, rfl⟩, (Below.refl _ w).alloc (Nat.le_refl _) _⟩
  have h0 : 0 < s.size := by omega
  by_cases hb : 1 < s.size ∧ (s[0].toNat : Int) = 48
  · obtain ⟨hs1, hc⟩ := hb
    have hd : decB s = false := by
      have hl : 0 < s.data.toList.length := h0
      have hh : s.data.toList.head? = some s[0] := by rw [List.head?_eq_getElem?, List.getElem?_eq_getElem hl]; rfl
      have h48 : s[0] = 48 := by apply UInt8.toNat_inj.1; have h48 : (48 : UInt8).toNat = 48 := rfl; rw [h48]; omega
      have hne : s.data.toList ≠ [48] := by intro e; have := congrArg List.length e; have h2 := data_len s; simp only [List.length_cons, List.length_nil] at this; omega
      unfold decB
      rw [hh, h48, decide_eq_false hne]
      simp
    have hz2 : ((s.size : Int) == 0) = false := by rw [beq_eq_false_iff_ne]; omega
    have hz3 : ¬ (s.size : Int) = 0 := by omega
    have HD := Lib.hid hd
    clear hd
    go_enter Tryd.func38, Tryd.ntmps38
    go_wp2_with fail
    exact bodyPost_ret (v := .tuple #[.agg #[.slice none 0 0], .int .i64 12]) (by simp [results, Tryd.results38, go_sem]) rfl ⟨.inr ⟨HD.out, rfl⟩, (Below.refl _ w).alloc (Nat.le_refl _) _⟩
  have hok : s.data.toList.all digB = true → decB s = true := by
    intro hall
    have hl : 0 < s.data.toList.length := h0
    have hh : s.data.toList.head? = some s[0] := by rw [List.head?_eq_getElem?, List.getElem?_eq_getElem hl]; rfl
    have hne : s.data.toList ≠ [] := by intro e; rw [e] at hl; simp at hl
    unfold decB
    rw [hall, hh, decide_eq_true hne]
    by_cases h1 : 1 < s.size
    · have h48 : s[0] ≠ 48 := by intro e; apply hb; refine ⟨h1, ?_⟩; rw [e]; rfl
      have h5 : decide (some s[0] ≠ some (48 : UInt8)) = true := decide_eq_true (fun e => h48 (Option.some.inj e))
      rw [h5]
      simp
    · by_cases h48 : s[0] = 48
      · have : s.data.toList = [48] := by
          have hl1 : s.data.toList.length = 1 := by have := data_len s; omega
          obtain ⟨x, hx⟩ := List.length_eq_one_iff.1 hl1
          rw [hx] at hh ⊢
          rw [h48] at hh
          simp at hh
          rw [hh]
        rw [decide_eq_true this]; rfl
      · have h5 : decide (some s[0] ≠ some (48 : UInt8)) = true := decide_eq_true (fun e => h48 (Option.some.inj e))
        rw [h5]
        simp
  have HOK := Lib.hid hok
  clear hok
  have hz2 : ((s.size : Int) == 0) = false := by rw [beq_eq_false_iff_ne]; omega
  have hz3 : ¬ (s.size : Int) = 0 := by omega
  have HC := Lib.hid c0
  have HF := Lib.hid f0
  by_cases hs1 : 1 < s.size
  · have hc1 : ((s[0].toNat : Int) == 48) = false := by rw [beq_eq_false_iff_ne]; exact fun e => hb ⟨hs1, e⟩
    have hc2 : ¬ (s[0].toNat : Int) = 48 := fun e => hb ⟨hs1, e⟩
    clear hb
    go_enter Tryd.func38, Tryd.ntmps38
    go_wp2_with fail
    clear hz hz2 hz3 hc1 hc2 c0 f0
    have HB0 := Lib.hid (show Below w.heap.size w (w.alloc (.cells #[.slice none 0 0] 24)) from (Below.refl _ w).alloc (Nat.le_refl _) _)
    go_loopw [4, 5] (fun l i wr => RpaRel w s l i wr) (fun _ i _ => s.size - (intOf i).toNat)
    case atStart => exact ⟨0, none, 0, [], rfl, Nat.zero_le _, rfl, rfl, Own.nil _ _, M.Lim.nil, rfl, Nat.le_refl _, Below.refl _ _⟩
    case round =>
      obtain ⟨k, a, cap, zs, rfl, hk, rfl, hall, ho, hl, hv, hlen, hb⟩ := hrel
      have HALL := Lib.hid hall
      have HO := Lib.hid ho
      have HL := Lib.hid hl
      have HV := Lib.hid hv
      have HB := Lib.hid hb
      have c2 := (hb.cell (p := ⟨w.heap.size, 0, none⟩) (by simp)).trans HC.out
      have f2 := (hb.frozen (p := ⟨w.heap.size, 0, none⟩) (by simp)).trans HF.out
      have hwr : w.heap.size + 1 ≤ wr.heap.size := by have := hb.size; rwa [World.size_alloc] at this
      clear ho hl hv hb hall
      by_cases hlt : k < s.size
      · by_cases hd : digB s[k] = true
        · have HAL2 := Lib.hid (dig_snocB s k hlt HALL.out hd)
          unfold digB at hd
          rw [Bool.and_eq_true, decide_eq_true_eq, decide_eq_true_eq] at hd
          have d1 : decide ((s[k].toNat : Int) < 48) = false := decide_eq_false (by omega)
          have d2 : decide (57 < (s[k].toNat : Int)) = false := decide_eq_false (by omega)
          obtain ⟨d, hdd⟩ : ∃ d : Nat, s[k].toNat - 48 = d := ⟨_, rfl⟩
          have hdi : (s[k].toNat : Int) - 48 = (d : Int) := by omega
          have hd10 : d < 10 := by omega
          have HSN := Lib.hid (dval_snoc s k hlt)
          rw [hdd] at HSN
          have HDI := Lib.hid hdi
          clear hdi hdd
          go_wp2_with fail
          rw [HDI.out]
          clear d1 d2 hd
          go_loopw [6, 7] (fun c i w2 => RpaIn (w.heap.size + 1) a cap zs d wr c i w2) (fun _ i _ => zs.length - (intOf i).toNat)
          case atStart => exact ⟨0, d, zs, rfl, rfl, Nat.zero_le _, by omega, by omega, rfl, HL.out, fun _ _ => rfl, by simp [M.val], HO.out, Below.refl _ _⟩
          case round =>
            clear HO HL
            obtain ⟨q, y, ys, rfl, rfl, hq, hy0, hy1, hyl, hlim, hsame, hval, hown, hbw⟩ := hrel
            have HYL := Lib.hid hyl
            have HLIM := Lib.hid hlim
            have HSM := Lib.hid hsame
            have HVL := Lib.hid hval
            have HOW := Lib.hid hown
            have HBW := Lib.hid hbw
            clear hyl hlim hsame hval hown hbw c2 f2
            by_cases hqz : q < zs.length
            · obtain ⟨g, rfl, hgB, hgW, hroom, hmost, hcz, hfz⟩ := HOW.out.at2 q (by rw [HYL.out]; exact hqz)
              have hlm := HLIM.out.get q
              obtain ⟨e, he⟩ : ∃ e, M.el ys q = e := ⟨_, rfl⟩
              have HE := Lib.hid he
              rw [he] at hcz hlm
              clear he
              have hst : Own (World.setCell wr ⟨g, q, none⟩ (.int .i64 ((e * 10 + y) % 16777216))) (w.heap.size + 1) (.slice (some ⟨g, 0, none⟩) zs.length cap) (ys.set q ((e * 10 + y) % 16777216)) := by
                have h := HOW.out
                rw [← HYL.out] at h ⊢
                exact h.set q _
              have HST := Lib.hid hst
              have HB2 := Lib.hid (HBW.out.setCell (p := ⟨g, q, none⟩) hgB (.int .i64 ((e * 10 + y) % 16777216)))
              clear hst
              go_wp2_with fail
              go_roundw
              case rel =>
                refine ⟨q + 1, (e * 10 + y) / 16777216, ys.set q ((e * 10 + y) % 16777216), by go_num, rfl, by omega, by omega, by omega, by rw [List.length_set]; exact HYL.out, HLIM.out.set q (by omega) (by omega), fun j hj => ?_, ?_, HST.out, HB2.out⟩
                · rw [M.el_set _ _ _ _ (by rw [HYL.out]; omega), if_neg (by omega)]
                  exact HSM.out j (by omega)
                · rw [M.val_set _ _ _ (by rw [HYL.out]; omega), M.val_take_succ', Int.pow_succ, HE.out, ← HSM.out q (Nat.le_refl _), HE.out]
                  have := par_step (u := (e * 10 + y) % 16777216) (q := (e * 10 + y) / 16777216) (e := e) (T := d + 9 * M.val (zs.take q)) (by rw [HVL.out, Int.add_assoc]) (by omega)
                  rw [this]
                  omega
              case measure => simp [intOf]; omega
            · obtain rfl : q = zs.length := by omega
              have hv := HVL.out
              rw [List.take_length, HV.out] at hv
              have HV2 := Lib.hid hv
              clear hv HVL HSM
              by_cases hc0 : 0 < y
              · go_wp2_with (at_builtin; refine wpList_app1 rfl _ _ rfl rfl (HOW.out.alloc _) rfl (cell_new _ _ _) (by rw [HYL.out]; omega) (by have := HBW.out.size; simp; omega) ?_; intro a' cap' w3 hown' hb'; have HO3 := Lib.hid hown'; have HB3 := Lib.hid hb'; clear hown' hb')
                go_roundw
                case rel => exact ⟨k + 1, a', cap', ys ++ [y], by go_num, by omega, by rw [List.length_append]; rfl, HAL2.out, HO3.out, HLIM.out.append (M.Lim.cons (by omega) (by omega) M.Lim.nil), by
                  rw [M.val_append, HYL.out, HSN.out]
                  simp only [M.val, Int.mul_zero, Int.add_zero]
                  rw [HV2.out]
                  push_cast
                  omega, by rw [List.length_append, HYL.out]; simp; omega, (HB.out.trans ((HBW.out.alloc (by have := HBW.out.size; omega) _).trans HB3.out))⟩
                case measure => simp [intOf]; omega
              · obtain rfl : y = 0 := by omega
                go_wp2_with fail
                go_roundw
                case rel => exact ⟨k + 1, a, cap, ys, by go_num, by omega, by rw [HYL.out], HAL2.out, by rw [HYL.out]; exact HOW.out, HLIM.out, by
                  rw [HSN.out]
                  have := HV2.out
                  rw [Int.mul_zero, Int.add_zero] at this
                  rw [this]
                  push_cast
                  omega, by rw [HYL.out]; omega, HB.out.trans HBW.out⟩
                case measure => simp [intOf]; omega
        · have HBD := Lib.hid (dec_bad hlt (Bool.eq_false_iff.2 hd))
          unfold digB at hd
          rw [Bool.and_eq_true, decide_eq_true_eq, decide_eq_true_eq] at hd
          by_cases h1 : (s[k].toNat : Int) < 48
          · have d1 : decide ((s[k].toNat : Int) < 48) = true := decide_eq_true h1
            clear hd
            go_wp2_with fail
            exact bodyPost_ret (v := .tuple #[.agg #[.slice none 0 0], .int .i64 12]) (by simp [results, Tryd.results38, go_sem, c2]) rfl ⟨.inr ⟨HBD.out, rfl⟩, (HB0.out.trans (HB.out.mono (by simp))).setCell (p := ⟨w.heap.size, 0, none⟩) (Nat.le_refl _) _⟩
          · have d1 : decide ((s[k].toNat : Int) < 48) = false := decide_eq_false h1
            have d2 : decide (57 < (s[k].toNat : Int)) = true := decide_eq_true (by omega)
            clear hd
            go_wp2_with fail
            exact bodyPost_ret (v := .tuple #[.agg #[.slice none 0 0], .int .i64 12]) (by simp [results, Tryd.results38, go_sem, c2]) rfl ⟨.inr ⟨HBD.out, rfl⟩, (HB0.out.trans (HB.out.mono (by simp))).setCell (p := ⟨w.heap.size, 0, none⟩) (Nat.le_refl _) _⟩
      · have hks : k = s.size := by omega
        have hall : s.data.toList.all digB = true := by
          have := HALL.out
          rwa [List.take_of_length_le (by have := data_len s; omega)] at this
        have HDC := Lib.hid (HOK.out hall)
        have hv' : M.val zs = ((dval s.data.toList : Nat) : Int) := by
          rw [HV.out, List.take_of_length_le (by have := data_len s; omega)]
        have HFT := Lib.hid (rfit_any HO.out (trim_dig HL.out hv'))
        clear hall hv' hks
        go_wp2_with fail
        refine HFT.out.mono ?_
        rintro e w5 ⟨hres, hb5⟩
        have d2 := cell_below hb5 c2
        have g2 := frozen_below hb5 c2 f2
        have HB5 := Lib.hid ((HB0.out.trans (HB.out.mono (by simp))).trans (hb5.mono (by omega)))
        clear hb5 c2 f2 HFT
        by_cases h200 : (M.dig (dval s.data.toList)).length ≤ 200
        · obtain ⟨v, rfl, a7, p7, rfl, hr7, hf7⟩ := hres.ok h200
          have HR7 := Lib.hid hr7
          have HF7 := Lib.hid hf7
          clear hr7 hres hf7
          go_wp2_with fail
          refine bodyPost_ret (v := .tuple #[.agg #[.slice a7 (M.dig (dval s.data.toList)).length p7], .int .i64 0]) (by simp [results, Tryd.results38, go_sem, d2]) rfl ⟨.inl ⟨HDC.out, natRes_ok h200 ⟨a7, p7, rfl, ?_⟩⟩, ?_⟩
          · exact HR7.out.setFresh HF7.out (p := ⟨w.heap.size, 0, none⟩) (by show w.heap.size < wr.heap.size; omega) _
          · exact HB5.out.setCell (p := ⟨w.heap.size, 0, none⟩) (Nat.le_refl _) _
        · obtain rfl := hres.limit h200
          clear hres
          go_wp2_with fail
          refine bodyPost_ret (v := .tuple #[.agg #[.slice none 0 0], .int .i64 3]) (by simp [results, Tryd.results38, go_sem, d2]) rfl ⟨.inl ⟨HDC.out, natRes_limit h200⟩, ?_⟩
          exact HB5.out.setCell (p := ⟨w.heap.size, 0, none⟩) (Nat.le_refl _) _
  · clear hb
    have hs2 : ¬ 1 < (s.size : Int) := by omega
    go_enter Tryd.func38, Tryd.ntmps38
    go_wp2_with fail
    clear hz hz2 hz3 hs2 c0 f0
    have HB0 := Lib.hid (show Below w.heap.size w (w.alloc (.cells #[.slice none 0 0] 24)) from (Below.refl _ w).alloc (Nat.le_refl _) _)
    go_loopw [4, 5] (fun l i wr => RpaRel w s l i wr) (fun _ i _ => s.size - (intOf i).toNat)
    case atStart => exact ⟨0, none, 0, [], rfl, Nat.zero_le _, rfl, rfl, Own.nil _ _, M.Lim.nil, rfl, Nat.le_refl _, Below.refl _ _⟩
    case round =>
      obtain ⟨k, a, cap, zs, rfl, hk, rfl, hall, ho, hl, hv, hlen, hb⟩ := hrel
      have HALL := Lib.hid hall
      have HO := Lib.hid ho
      have HL := Lib.hid hl
      have HV := Lib.hid hv
      have HB := Lib.hid hb
      have c2 := (hb.cell (p := ⟨w.heap.size, 0, none⟩) (by simp)).trans HC.out
      have f2 := (hb.frozen (p := ⟨w.heap.size, 0, none⟩) (by simp)).trans HF.out
      have hwr : w.heap.size + 1 ≤ wr.heap.size := by have := hb.size; rwa [World.size_alloc] at this
      clear ho hl hv hb hall
      by_cases hlt : k < s.size
      · by_cases hd : digB s[k] = true
        · have HAL2 := Lib.hid (dig_snocB s k hlt HALL.out hd)
          unfold digB at hd
          rw [Bool.and_eq_true, decide_eq_true_eq, decide_eq_true_eq] at hd
          have d1 : decide ((s[k].toNat : Int) < 48) = false := decide_eq_false (by omega)
          have d2 : decide (57 < (s[k].toNat : Int)) = false := decide_eq_false (by omega)
          obtain ⟨d, hdd⟩ : ∃ d : Nat, s[k].toNat - 48 = d := ⟨_, rfl⟩
          have hdi : (s[k].toNat : Int) - 48 = (d : Int) := by omega
          have hd10 : d < 10 := by omega
          have HSN := Lib.hid (dval_snoc s k hlt)
          rw [hdd] at HSN
          have HDI := Lib.hid hdi
          clear hdi hdd
          go_wp2_with fail
          rw [HDI.out]
          clear d1 d2 hd
          go_loopw [6, 7] (fun c i w2 => RpaIn (w.heap.size + 1) a cap zs d wr c i w2) (fun _ i _ => zs.length - (intOf i).toNat)
          case atStart => exact ⟨0, d, zs, rfl, rfl, Nat.zero_le _, by omega, by omega, rfl, HL.out, fun _ _ => rfl, by simp [M.val], HO.out, Below.refl _ _⟩
          case round =>
            clear HO HL
            obtain ⟨q, y, ys, rfl, rfl, hq, hy0, hy1, hyl, hlim, hsame, hval, hown, hbw⟩ := hrel
            have HYL := Lib.hid hyl
            have HLIM := Lib.hid hlim
            have HSM := Lib.hid hsame
            have HVL := Lib.hid hval
            have HOW := Lib.hid hown
            have HBW := Lib.hid hbw
            clear hyl hlim hsame hval hown hbw c2 f2
            by_cases hqz : q < zs.length
            · omega
            · obtain rfl : q = zs.length := by omega
              have hv := HVL.out
              rw [List.take_length, HV.out] at hv
              have HV2 := Lib.hid hv
              clear hv HVL HSM
              by_cases hc0 : 0 < y
              · go_wp2_with (at_builtin; refine wpList_app1 rfl _ _ rfl rfl (HOW.out.alloc _) rfl (cell_new _ _ _) (by rw [HYL.out]; omega) (by have := HBW.out.size; simp; omega) ?_; intro a' cap' w3 hown' hb'; have HO3 := Lib.hid hown'; have HB3 := Lib.hid hb'; clear hown' hb')
                go_roundw
                case rel => exact ⟨k + 1, a', cap', ys ++ [y], by go_num, by omega, by rw [List.length_append]; rfl, HAL2.out, HO3.out, HLIM.out.append (M.Lim.cons (by omega) (by omega) M.Lim.nil), by
                  rw [M.val_append, HYL.out, HSN.out]
                  simp only [M.val, Int.mul_zero, Int.add_zero]
                  rw [HV2.out]
                  push_cast
                  omega, by rw [List.length_append, HYL.out]; simp; omega, (HB.out.trans ((HBW.out.alloc (by have := HBW.out.size; omega) _).trans HB3.out))⟩
                case measure => simp [intOf]; omega
              · obtain rfl : y = 0 := by omega
                go_wp2_with fail
                go_roundw
                case rel => exact ⟨k + 1, a, cap, ys, by go_num, by omega, by rw [HYL.out], HAL2.out, by rw [HYL.out]; exact HOW.out, HLIM.out, by
                  rw [HSN.out]
                  have := HV2.out
                  rw [Int.mul_zero, Int.add_zero] at this
                  rw [this]
                  push_cast
                  omega, by rw [HYL.out]; omega, HB.out.trans HBW.out⟩
                case measure => simp [intOf]; omega
        · have HBD := Lib.hid (dec_bad hlt (Bool.eq_false_iff.2 hd))
          unfold digB at hd
          rw [Bool.and_eq_true, decide_eq_true_eq, decide_eq_true_eq] at hd
          by_cases h1 : (s[k].toNat : Int) < 48
          · have d1 : decide ((s[k].toNat : Int) < 48) = true := decide_eq_true h1
            clear hd
            go_wp2_with fail
            exact bodyPost_ret (v := .tuple #[.agg #[.slice none 0 0], .int .i64 12]) (by simp [results, Tryd.results38, go_sem, c2]) rfl ⟨.inr ⟨HBD.out, rfl⟩, (HB0.out.trans (HB.out.mono (by simp))).setCell (p := ⟨w.heap.size, 0, none⟩) (Nat.le_refl _) _⟩
          · have d1 : decide ((s[k].toNat : Int) < 48) = false := decide_eq_false h1
            have d2 : decide (57 < (s[k].toNat : Int)) = true := decide_eq_true (by omega)
            clear hd
            go_wp2_with fail
            exact bodyPost_ret (v := .tuple #[.agg #[.slice none 0 0], .int .i64 12]) (by simp [results, Tryd.results38, go_sem, c2]) rfl ⟨.inr ⟨HBD.out, rfl⟩, (HB0.out.trans (HB.out.mono (by simp))).setCell (p := ⟨w.heap.size, 0, none⟩) (Nat.le_refl _) _⟩
      · have hks : k = s.size := by omega
        have hall : s.data.toList.all digB = true := by
          have := HALL.out
          rwa [List.take_of_length_le (by have := data_len s; omega)] at this
        have HDC := Lib.hid (HOK.out hall)
        have hv' : M.val zs = ((dval s.data.toList : Nat) : Int) := by
          rw [HV.out, List.take_of_length_le (by have := data_len s; omega)]
        have HFT := Lib.hid (rfit_any HO.out (trim_dig HL.out hv'))
        clear hall hv' hks
        go_wp2_with fail
        refine HFT.out.mono ?_
        rintro e w5 ⟨hres, hb5⟩
        have d2 := cell_below hb5 c2
        have g2 := frozen_below hb5 c2 f2
        have HB5 := Lib.hid ((HB0.out.trans (HB.out.mono (by simp))).trans (hb5.mono (by omega)))
        clear hb5 c2 f2 HFT
        by_cases h200 : (M.dig (dval s.data.toList)).length ≤ 200
        · obtain ⟨v, rfl, a7, p7, rfl, hr7, hf7⟩ := hres.ok h200
          have HR7 := Lib.hid hr7
          have HF7 := Lib.hid hf7
          clear hr7 hres hf7
          go_wp2_with fail
          refine bodyPost_ret (v := .tuple #[.agg #[.slice a7 (M.dig (dval s.data.toList)).length p7], .int .i64 0]) (by simp [results, Tryd.results38, go_sem, d2]) rfl ⟨.inl ⟨HDC.out, natRes_ok h200 ⟨a7, p7, rfl, ?_⟩⟩, ?_⟩
          · exact HR7.out.setFresh HF7.out (p := ⟨w.heap.size, 0, none⟩) (by show w.heap.size < wr.heap.size; omega) _
          · exact HB5.out.setCell (p := ⟨w.heap.size, 0, none⟩) (Nat.le_refl _) _
        · obtain rfl := hres.limit h200
          clear hres
          go_wp2_with fail
          refine bodyPost_ret (v := .tuple #[.agg #[.slice none 0 0], .int .i64 3]) (by simp [results, Tryd.results38, go_sem, d2]) rfl ⟨.inl ⟨HDC.out, natRes_limit h200⟩, ?_⟩
          exact HB5.out.setCell (p := ⟨w.heap.size, 0, none⟩) (Nat.le_refl _) _
end Go.Proofs.YtneimnacanhjmaaDoor
