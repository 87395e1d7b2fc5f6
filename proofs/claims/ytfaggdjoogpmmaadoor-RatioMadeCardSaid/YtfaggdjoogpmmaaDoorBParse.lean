/- nat.Parse. -/
import Derived.Test.YtfaggdjoogpmmaaDoorB10
namespace Go.Proofs.YtfaggdjoogpmmaaDoor
open Go Go.RowKit Go.Shelf

theorem data_len (s : ByteArray) : s.data.toList.length = s.size := rfl
theorem toList_loop (s : ByteArray) (n : Nat) : ∀ (i : Nat) (r : List UInt8), s.size - i = n → ByteArray.toList.loop s i r = r.reverse ++ s.data.toList.drop i := by
  induction n with
  | zero =>
    intro i r h
    have := data_len s
    rw [ByteArray.toList.loop, if_neg (by omega), List.drop_of_length_le (by omega), List.append_nil]
  | succ n ih =>
    intro i r h
    have h0 := data_len s
    have hl : i < s.data.toList.length := by omega
    rw [ByteArray.toList.loop, if_pos (by omega), ih (i + 1) _ (by omega), List.reverse_cons, List.append_assoc, List.drop_eq_getElem_cons hl]
    have e : s.get! i = s.data.toList[i] := by
      cases s with | mk d =>
      have hd : i < d.size := hl
      simp [ByteArray.get!, hd]
    rw [e]; rfl
theorem toList_data (s : ByteArray) : s.toList = s.data.toList := by
  rw [ByteArray.toList, toList_loop s s.size 0 [] (by omega)]; simp

/-- Is the byte a decimal digit? -/
def digB (c : UInt8) : Bool := decide (48 ≤ c.toNat) && decide (c.toNat ≤ 57)
/-- The texts that Parse takes. -/
def decB (s : ByteArray) : Bool := s.data.toList.all digB && (decide (s.data.toList = [48]) || (decide (s.data.toList ≠ []) && decide (s.data.toList.head? ≠ some 48)))

theorem dec_bad {s : ByteArray} {k : Nat} (h : k < s.size) (hb : digB s[k] = false) : decB s = false := by
  unfold decB
  have : s.data.toList.all digB = false := by
    rw [List.all_eq_false]
    refine ⟨s[k], ?_, by simp [hb]⟩
    exact List.getElem_mem (l := s.data.toList) (h := h)
  rw [this]; rfl
theorem dec_zero {s : ByteArray} (h : s.toList = [48]) : decB s = true := by
  rw [toList_data] at h
  unfold decB; rw [h]; rfl
theorem dec_none {s : ByteArray} (h : s.toList = []) : decB s = false := by
  rw [toList_data] at h
  unfold decB; rw [h]; rfl
theorem dec_else {s : ByteArray} (h1 : ¬ s.toList = [48]) (h0 : 0 < s.size) (hall : s.data.toList.all digB = true) : (s.toList == [48] || !s.toList.isEmpty && (s[0].toNat : Int) != 48) = decB s := by
  have e1 : (s.toList == [48]) = false := by rw [beq_eq_false_iff_ne]; exact h1
  rw [toList_data] at e1 h1 ⊢
  have hl : 0 < s.data.toList.length := h0
  have hne : s.data.toList ≠ [] := by intro e; rw [e] at hl; simp at hl
  have hh : s.data.toList.head? = some s[0] := by
    rw [List.head?_eq_getElem?, List.getElem?_eq_getElem hl]; rfl
  unfold decB
  rw [e1, hall, decide_eq_false h1, decide_eq_true hne, hh]
  have e2 : s.data.toList.isEmpty = false := by rw [List.isEmpty_eq_false_iff]; exact hne
  rw [e2]
  by_cases hc : s[0] = 48
  · have : ((s[0].toNat : Int) != 48) = false := by rw [hc]; rfl
    rw [this, hc]; rfl
  · have : ((s[0].toNat : Int) != 48) = true := by
      rw [bne_iff_ne]
      intro e
      apply hc
      apply UInt8.toNat_inj.1
      have h48 : (48 : UInt8).toNat = 48 := rfl
      rw [h48]; omega
    rw [this, decide_eq_true (by intro e; exact hc (Option.some.inj e))]; rfl
theorem dig_snocB (s : ByteArray) (k : Nat) (h : k < s.size) (ha : (s.data.toList.take k).all digB = true) (hd : digB s[k] = true) : (s.data.toList.take (k + 1)).all digB = true := by
  have hl : k < s.data.toList.length := h
  rw [List.take_succ_eq_append_getElem hl, List.all_append, ha]
  simp only [List.all_cons, List.all_nil, Bool.and_true, Bool.true_and]
  exact hd

set_option maxHeartbeats 1000000 in
theorem isDecimal_any (s : ByteArray) (w : World) (hs : s.size ≤ 1445) :
    Calls Tryd.prog 79 #[.string s] w fun e W' => e = .returned (.bool (decB s)) ∧ w = W' := by
  go_enter Tryd.func79, Tryd.ntmps79
  go_wp2
  go_loop [6] (fun i => ∃ k : Nat, k ≤ s.size ∧ i = .int .i64 k ∧ (s.data.toList.take k).all digB = true) (fun i => s.size - (intOf i).toNat)
  case atStart => exact ⟨0, Nat.zero_le _, rfl, rfl⟩
  case round =>
    obtain ⟨k, hk, rfl, hall⟩ := hrel
    have HA := Lib.hid hall
    clear hall
    by_cases hlt : k < s.size
    · by_cases hd : digB s[k] = true
      · have HD := Lib.hid hd
        unfold digB at hd
        rw [Bool.and_eq_true, decide_eq_true_eq, decide_eq_true_eq] at hd
        have d1 : decide ((s[k].toNat : Int) < 48) = false := decide_eq_false (by omega)
        have d2 : decide (57 < (s[k].toNat : Int)) = false := decide_eq_false (by omega)
        go_wp2
        go_round
        case rel => exact ⟨k + 1, by omega, by go_num, dig_snocB s k hlt HA.out HD.out⟩
        case measure => simp [intOf]; omega
      · have HB := Lib.hid (dec_bad hlt (Bool.eq_false_iff.2 hd))
        unfold digB at hd
        rw [Bool.and_eq_true, decide_eq_true_eq, decide_eq_true_eq] at hd
        by_cases h1 : (s[k].toNat : Int) < 48
        · have d1 : decide ((s[k].toNat : Int) < 48) = true := decide_eq_true h1
          clear hd
          go_wp2
          go_ret
          exact ⟨by rw [HB.out]; rfl, rfl⟩
        · have d1 : decide ((s[k].toNat : Int) < 48) = false := decide_eq_false h1
          have d2 : decide (57 < (s[k].toNat : Int)) = true := decide_eq_true (by omega)
          clear hd
          go_wp2
          go_ret
          exact ⟨by rw [HB.out]; rfl, rfl⟩
    · have hall : s.data.toList.all digB = true := by
        have := HA.out
        rwa [List.take_of_length_le (by have := data_len s; omega)] at this
      have HALL := Lib.hid hall
      clear hall
      by_cases h1 : s.toList = [48]
      · have HZ := Lib.hid (dec_zero h1)
        go_wp2
        go_ret
        exact ⟨by rw [HZ.out]; rfl, rfl⟩
      · by_cases h2 : s.toList = []
        · have HZ := Lib.hid (dec_none h2)
          go_wp2
          go_ret
          exact ⟨by rw [HZ.out]; rfl, rfl⟩
        · have h0 : 0 < s.size := by
            rcases Nat.eq_zero_or_pos s.size with h | h
            · exact absurd (by rw [toList_data]; exact List.length_eq_zero_iff.1 h) h2
            · exact h
          have HZ := Lib.hid (dec_else h1 h0 HALL.out)
          go_wp2
          go_ret
          exact ⟨by rw [← HZ.out]; rfl, rfl⟩

/-- The value of a text of digits. -/
def dval (l : List UInt8) : Nat := l.foldl (fun v c => v * 10 + (c.toNat - 48)) 0
theorem dval_snoc (s : ByteArray) (k : Nat) (h : k < s.size) : dval (s.data.toList.take (k + 1)) = dval (s.data.toList.take k) * 10 + (s[k].toNat - 48) := by
  have hl : k < s.data.toList.length := h
  unfold dval
  rw [List.take_succ_eq_append_getElem hl, List.foldl_append]; rfl

def PaRel (w : World) (s : ByteArray) (l i : Value) (W : World) : Prop :=
  ∃ (k : Nat) (a : Option Addr) (cap : Nat) (zs : List Int), i = .int .i64 (k : Int) ∧ k ≤ s.size ∧ l = .slice a zs.length cap ∧ Own W (w.heap.size + 1) (.slice a zs.length cap) zs ∧ M.Lim zs ∧ M.val zs = dval (s.data.toList.take k) ∧ zs.length ≤ k ∧ Below (w.heap.size + 1) (w.alloc (.cells #[.slice none 0 0] 24)) W

set_option maxRecDepth 100000 in
set_option maxHeartbeats 1000000 in
theorem parse_dec (s : ByteArray) (w : World) (hs : s.size ≤ 1445) (hd : decB s = true) :
    Calls Tryd.prog 37 #[.string s] w fun e W' => NatRes (dval s.data.toList) e W' ∧ Below w.heap.size w W' := by
  have hall : s.data.toList.all digB = true := by unfold decB at hd; rw [Bool.and_eq_true] at hd; exact hd.1
  have HID := Lib.hid (fun W : World => isDecimal_any s W hs)
  rw [hd] at HID
  have HALL := Lib.hid hall
  clear hd hall
  go_enter Tryd.func37, Tryd.ntmps37
  go_wp2_with fail
  refine (HID.out _).mono ?_
  rintro e w' ⟨rfl, rfl⟩
  go_wp2_with fail
  go_loopw [4, 16] (fun l i wr => PaRel w s l i wr) (fun _ i _ => s.size - (intOf i).toNat)
  case atStart => exact ⟨0, none, 0, [], rfl, Nat.zero_le _, rfl, Own.nil _ _, M.Lim.nil, rfl, Nat.le_refl _, Below.refl _ _⟩
  case round =>
    obtain ⟨k, a, cap, zs, rfl, hk, rfl, ho, hl, hv, hlen, hb⟩ := hrel
    by_cases hlt : k < s.size
    · have hdk : digB s[k] = true := by
        have := List.all_eq_true.1 HALL.out s[k] (List.getElem_mem (l := s.data.toList) (h := hlt))
        exact this
      unfold digB at hdk
      rw [Bool.and_eq_true, decide_eq_true_eq, decide_eq_true_eq] at hdk
      have HO := Lib.hid ho
      have HL := Lib.hid hl
      have HV := Lib.hid hv
      have HB := Lib.hid hb
      clear ho hl hv hb
      have hwr : w.heap.size + 1 ≤ wr.heap.size := by have := HB.out.size; rwa [World.size_alloc] at this
      obtain ⟨d, hd⟩ : ∃ d : Nat, s[k].toNat - 48 = d := ⟨_, rfl⟩
      have hdi : (s[k].toNat : Int) - 48 = (d : Int) := by omega
      have hd10 : d < 10 := by omega
      have HSN := Lib.hid (dval_snoc s k hlt)
      rw [hd] at HSN
      have hsc := scale_any (w.heap.size + 1) a cap zs 10 d wr hwr (by decide) (by omega) HL.out (by omega) HO.out
      have HSC : Hid (Calls Tryd.prog 76 #[.slice a zs.length cap, .int .i64 10, .int .i64 (d : Int)] wr (SclPost wr (w.heap.size + 1) zs 10 d)) := hsc
      have HDI := Lib.hid hdi
      clear hsc hd hdi
      go_wp2_with fail
      rw [HDI.out]
      refine HSC.out.mono ?_
      rintro e w2 ⟨a2, p2, ys, rfl, ho2, hb2, hl2, hlen2, hv2⟩
      have HO2 := Lib.hid ho2
      have HL2 := Lib.hid hl2
      have HV2 := Lib.hid hv2
      have HB2 := Lib.hid hb2
      clear ho2 hl2 hv2 hb2 HSC
      go_wp2_with fail
      go_roundw
      case rel => exact ⟨k + 1, a2, p2, ys, by go_num, by omega, rfl, HO2.out, HL2.out, by rw [HV2.out, HSN.out, HV.out]; simp, by omega, HB.out.trans HB2.out⟩
      case measure => simp [intOf]; omega
    · have hk' : k = s.size := by omega
      have hv' : M.val zs = ((dval s.data.toList : Nat) : Int) := by
        rw [hv, List.take_of_length_le (by have := data_len s; omega)]
      have hend := (by have := M.trimL_dig hl; rwa [hv', Int.toNat_natCast] at this : M.trimL zs = M.dig (dval s.data.toList))
      have hw := within_any a zs cap wr ho.rowAt
      have hot := ho.trimmed
      rw [hend] at hw hot
      obtain ⟨a', c', hcut⟩ := cut_slice a cap (M.dig (dval s.data.toList))
      rw [hcut] at hw hot
      have HO := Lib.hid hot
      have HB := Lib.hid hb
      have hwr : w.heap.size + 1 ≤ wr.heap.size := by have := hb.size; rwa [World.size_alloc] at this
      have c2 := (hb.cell (p := ⟨w.heap.size, 0, none⟩) (by simp)).trans (cell_new w (.slice none 0 0) 24)
      have f2 := (hb.frozen (p := ⟨w.heap.size, 0, none⟩) (by simp)).trans (frozen_new w (.slice none 0 0) 24)
      have hs2 : w.heap.size < wr.heap.size := by omega
      have HB0 : Hid (Below w.heap.size w (w.alloc (.cells #[.slice none 0 0] 24))) := (Below.refl _ w).alloc (Nat.le_refl _) _
      clear hend hcut hot ho hl hv hv' hb hk'
      by_cases h200 : (M.dig (dval s.data.toList)).length ≤ 200
      · rw [if_pos h200] at hw
        have HW := Lib.hid hw
        clear hw
        go_wp2_with (go_at_call 71; refine HW.out.mono ?_; rintro e w7 ⟨rfl, hb7⟩; have d2 := (hb7.cell (p := ⟨w.heap.size, 0, none⟩) hs2).trans c2; have g2 := (hb7.frozen (p := ⟨w.heap.size, 0, none⟩) hs2).trans f2)
        refine bodyPost_ret (v := .tuple #[.agg #[.slice a' (M.dig (dval s.data.toList)).length c'], .int .i64 0]) (by simp [results, Tryd.results37, go_sem, d2]) rfl ⟨natRes_ok h200 ?_, ?_⟩
        · exact ((HO.out.below hb7).setBelow (p := ⟨w.heap.size, 0, none⟩) (by simp) _).num
        · exact ((HB0.out.trans (HB.out.mono (by omega))).trans (hb7.mono (by omega))).setCell (p := ⟨w.heap.size, 0, none⟩) (Nat.le_refl _) _
      · rw [if_neg h200] at hw
        have HW := Lib.hid hw
        clear hw
        go_wp2_with (go_at_call 71; refine HW.out.mono ?_; rintro e w7 ⟨rfl, hb7⟩; have d2 := (hb7.cell (p := ⟨w.heap.size, 0, none⟩) hs2).trans c2; have g2 := (hb7.frozen (p := ⟨w.heap.size, 0, none⟩) hs2).trans f2)
        refine bodyPost_ret (v := .tuple #[.agg #[.slice none 0 0], .int .i64 3]) (by simp [results, Tryd.results37, go_sem, d2]) rfl ⟨natRes_limit h200, ?_⟩
        exact ((HB0.out.trans (HB.out.mono (by omega))).trans (hb7.mono (by omega))).setCell (p := ⟨w.heap.size, 0, none⟩) (Nat.le_refl _) _
end Go.Proofs.YtfaggdjoogpmmaaDoor
