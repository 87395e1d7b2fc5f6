/- The reference's Print. -/
import Derived.Laws.IdiomStrings
import Derived.Test.YtfaggdjoogpmmaaDoorBRefSub
import Derived.Test.YtfaggdjoogpmmaaDoorB10
import Derived.Test.YtfaggdjoogpmmaaDoorBBad
namespace Go.Proofs.YtfaggdjoogpmmaaDoor
open Go Go.RowKit Go.Shelf

/-- The text of the j lowest digits of n, highest first. -/
def digT (j n : Nat) : ByteArray := ⟨((M.dg j n).reverse.map UInt8.ofNat).toArray⟩
def sizeOfS : Value → Nat
  | .string s => s.size
  | _ => 0
def RPrRel (w : World) (n B : Nat) (l s : Value) (W : World) : Prop :=
  ∃ (j : Nat) (a : Option Addr) (cap : Nat), l = .slice a (M.dig (n / 10 ^ j)).length cap ∧ s = .string (digT j n) ∧ (0 < j → 0 < n / 10 ^ (j - 1)) ∧ Own W B (.slice a (M.dig (n / 10 ^ j)).length cap) (M.dig (n / 10 ^ j)) ∧ Below w.heap.size w W ∧ B ≤ W.heap.size

theorem ba_append (l k : List UInt8) : (⟨l.toArray⟩ : ByteArray) ++ ⟨k.toArray⟩ = ⟨(l ++ k).toArray⟩ := by
  apply ByteArray.ext
  simp
theorem digT_succ (j n : Nat) : (⟨#[UInt8.ofNat (48 + n / 10 ^ j % 10)]⟩ : ByteArray) ++ digT j n = digT (j + 1) n := by
  unfold digT
  rw [M.dg_snoc, List.reverse_append]
  exact ba_append [UInt8.ofNat (48 + n / 10 ^ j % 10)] _
theorem digT_size (j n : Nat) : (digT j n).size = j := by
  unfold digT
  simp [ByteArray.size, M.dg_len]
theorem pow_le_ten {m j : Nat} (h : 8 * m ≤ j) : 16777216 ^ m ≤ 10 ^ j :=
  Nat.le_trans (Nat.pow_le_pow_left (by decide : 16777216 ≤ 10 ^ 8) m) (by rw [← Nat.pow_mul]; exact Nat.pow_le_pow_right (by decide) h)
theorem few_at {m n j : Nat} (h1 : n < 16777216 ^ m) (h2 : 10 ^ j ≤ n) : j < 8 * m :=
  Nat.lt_of_not_le fun h3 => Nat.lt_irrefl _ (Nat.lt_of_le_of_lt (Nat.le_trans (pow_le_ten h3) h2) h1)
theorem few_digits {n j : Nat} (h : (M.dig n).length ≤ 200) (hj : 0 < n / 10 ^ j) : j < 1600 := by
  have h2 : 10 ^ j ≤ n := Nat.le_of_not_lt fun h => by rw [Nat.div_eq_of_lt h] at hj; exact absurd hj (Nat.lt_irrefl 0)
  have := few_at (M.dig_len_le.1 h) h2
  omega
theorem decs_full {n j : Nat} (h0 : n / 10 ^ j = 0) (hj : 0 < j) (h1 : 0 < n / 10 ^ (j - 1)) : M.decs j n = (M.dg j n).reverse := by
  obtain ⟨i, rfl⟩ : ∃ i, j = i + 1 := ⟨j - 1, by omega⟩
  rw [Nat.add_sub_cancel] at h1
  rw [Nat.pow_succ, ← Nat.div_div_eq_div_mul] at h0
  unfold M.decs
  rw [M.dg_snoc, List.reverse_append]
  show List.dropWhile _ ((48 + n / 10 ^ i % 10) :: _) = (48 + n / 10 ^ i % 10) :: _
  rw [List.dropWhile_cons_of_neg]
  simp
  omega
theorem byte_string (W : World) (b : Nat) (hb : b < 256) : (convert 80 9 (.slice (some ⟨W.heap.size, 0, none⟩) 1 1)).run Tryd.prog (W.alloc (.cells #[.int .u8 (b : Int)] 5)) = .ok (.string ⟨#[UInt8.ofNat b]⟩) (W.alloc (.cells #[.int .u8 (b : Int)] 5)) :=
  run_convert_bytes_back _ _ _ _ ⟨W.heap.size, 0, none⟩ 1 [UInt8.ofNat b] Tryd.underlying80 Tryd.underlying5 Tryd.underlying9 (fun j hj => by
    have : j = 0 := by simpa using hj
    subst this
    rw [show (⟨W.heap.size, 0, none⟩ : Addr).add 0 = ⟨W.heap.size, 0, none⟩ from rfl, cell_new]
    simp [Nat.mod_eq_of_lt hb])
def RPrIn (w : World) (m B g cap : Nat) (r i : Value) (W : World) : Prop :=
  ∃ (k : Nat) (zs : List Int), k ≤ (M.dig m).length ∧ i = .int .i64 ((k : Int) - 1) ∧ r = .int .i64 (M.shr 10 ((M.dig m).drop k)).1 ∧ zs = M.shrAt 10 (M.dig m) k ∧ Own W B (.slice (some ⟨g, 0, none⟩) zs.length cap) zs ∧ Below w.heap.size w W ∧ B ≤ W.heap.size

set_option maxRecDepth 100000 in
set_option maxHeartbeats 2000000 in
theorem rprint_pos (a : Option Addr) (ca n : Nat) (w : World) (hn : 0 < n) (hx200 : (M.dig n).length ≤ 200) (hA : Row w a (M.dig n) ca) :
    Calls Tryd.prog 68 #[.agg #[.slice a (M.dig n).length ca]] w fun e W' => PrPost n e ∧ Below w.heap.size w W' := by
  have HV := Lib.hid (vld_dig hx200)
  have hl0 : 0 < (M.dig n).length := by
    rcases Nat.eq_zero_or_pos (M.dig n).length with h | h
    · have := M.dig_nil.1 (List.length_eq_zero_iff.1 h); omega
    · exact h
  have c0 := cell_new w (.slice a (M.dig n).length ca) 24
  have HB0 := Lib.hid ((Below.refl _ w).alloc (Nat.le_refl _) (.cells #[.slice a (M.dig n).length ca] 24))
  have HA := Lib.hid (hA.below HB0.out)
  have hroom := hA.room
  have hmost := hA.most
  clear hA
  go_enter Tryd.func68, Tryd.ntmps68
  go_wp2_with fail
  generalize w.alloc (.cells #[.slice a (M.dig n).length ca] 24) = w0 at *
  refine (rvalid_yes a _ ca _ HA.out HV.out).mono ?_
  rintro e w1 ⟨rfl, hb1⟩
  have c1 := cell_below hb1 c0
  have HA1 := Lib.hid (HA.out.below hb1)
  have HB1 := Lib.hid (HB0.out.trans (hb1.mono HB0.out.size))
  clear hb1 c0 HB0 HA
  go_wp2_with (at_builtin; refine wpList_appAny rfl _ _ rfl rfl (Own.nil w1 w1.heap.size) rfl HA1.out (by simp; omega) (Nat.le_refl _) ?_; intro a' cap' W' hown' hb')
  have HO := Lib.hid (show Own W' w1.heap.size (.slice a' (M.dig n).length cap') (M.dig n) from by simpa using hown')
  have HB2 := Lib.hid (HB1.out.trans (hb'.mono HB1.out.size))
  have hs2 := hb'.size
  have hs1 := HB1.out.size
  clear hown' hb' HB1 HA1 c1
  go_wp2_with fail
  go_loopw [3, 4] (fun l s wr => RPrRel w n w1.heap.size l s wr) (fun _ s _ => 1600 - sizeOfS s)
  case atStart => exact ⟨0, a', cap', by simp, rfl, by omega, by simpa using HO.out, HB2.out, hs2⟩
  case round =>
    obtain ⟨j, a1, cap1, rfl, rfl, hj, hown, hbW, hBW⟩ := hrel
    obtain ⟨m, hm⟩ : ∃ m, m = n / 10 ^ j := ⟨_, rfl⟩
    rw [← hm] at hown ⊢
    have HM := Lib.hid hm
    have HJ := Lib.hid hj
    have HOW := Lib.hid hown
    have HBW := Lib.hid hbW
    have hm200 : (M.dig m).length ≤ 200 := Nat.le_trans (M.dig_len_mono (by rw [hm]; exact Nat.div_le_self _ _)) hx200
    clear hm hj hown hbW
    rcases Nat.eq_zero_or_pos m with hz | hz
    · have HZ := Lib.hid hz
      have hd : decide (0 < (M.dig m).length) = false := by rw [hz, M.dig_zero]; rfl
      have hm0 : n / 10 ^ j = 0 := by rw [← HM.out]; exact hz
      have hj1 : 0 < j := by
        rcases Nat.eq_zero_or_pos j with h | h
        · subst h; rw [Nat.pow_zero, Nat.div_one] at hm0; omega
        · exact h
      have HD := Lib.hid (decs_full hm0 hj1 (HJ.out hj1))
      have HLT := Lib.hid (show n < 10 ^ j from by
        rcases Nat.lt_or_ge n (10 ^ j) with h | h
        · exact h
        · have := Nat.div_pos h (Nat.pow_pos (by omega)); omega)
      have hnb : (digT j n).toList.isEmpty = false := by
        rw [ByteArray.toList_eq]
        have hl := M.dg_len j n
        unfold digT
        simp only [List.isEmpty_eq_false_iff]
        intro e
        have e2 : (M.dg j n).reverse.map UInt8.ofNat = [] := e
        have h3 := congrArg List.length e2
        rw [List.length_map, List.length_reverse, hl] at h3
        exact Nat.ne_of_gt hj1 h3
      clear hz hm0
      go_wp2_with fail
      go_ret
      exact ⟨⟨j, HLT.out, by rw [HD.out]; rfl⟩, HBW.out⟩
    · have hl : 0 < (M.dig m).length := by
        rcases Nat.eq_zero_or_pos (M.dig m).length with h | h
        · have := M.dig_nil.1 (List.length_eq_zero_iff.1 h); omega
        · exact h
      obtain ⟨g, rfl, hgB, hgW, hcap, hcap2, _, _⟩ := HOW.out.at2 0 hl
      go_wp2_with fail
      go_loopw [5, 6] (fun r i wq => RPrIn w m w1.heap.size g cap1 r i wq) (fun _ i _ => (intOf i + 1).toNat)
      case atStart => exact ⟨(M.dig m).length, _, Nat.le_refl _, rfl, by rw [List.drop_length]; rfl, rfl, by rw [M.shrAt_all]; exact HOW.out, HBW.out, hBW⟩
      case round =>
        obtain ⟨k, zs, hk, rfl, rfl, hzs, ho, hbq, hBq⟩ := hrel
        have hlen : zs.length = (M.dig m).length := by rw [hzs, M.shrAt_len]
        have HZS := Lib.hid hzs
        have HLEN := Lib.hid hlen
        have HO2 := Lib.hid ho
        have HBQ := Lib.hid hbq
        clear hzs hlen ho hbq
        rcases Nat.eq_zero_or_pos k with hz0 | hz0
        · subst hz0
          have hsh := M.shr_nat (d := 10) (by omega) (M.lim_dig m) (M.val_dig m)
          have hq : (M.shr 10 ((M.dig m).drop 0)).1 = ((m % 10 : Nat) : Int) := hsh.2
          have hzs0 : M.trimL zs = M.dig (m / 10) := by rw [HZS.out, M.shrAt_zero]; exact hsh.1
          have HZ0 := Lib.hid hzs0
          have hd10 : m % 10 < 10 := Nat.mod_lt _ (by omega)
          have hdT : (⟨#[UInt8.ofNat (48 + m % 10)]⟩ : ByteArray) ++ digT j n = digT (j + 1) n := by rw [HM.out]; exact digT_succ j n
          have HDT := Lib.hid hdT
          rw [hq]
          clear hsh hq hzs0 hdT
          generalize m % 10 = d at *
          have hcv := byte_string wr (48 + d) (by omega)
          rw [show ((48 + d : Nat) : Int) = 48 + (d : Int) by omega] at hcv
          obtain ⟨ch, hch⟩ : ∃ ch, ch = UInt8.ofNat (48 + d) := ⟨_, rfl⟩
          rw [← hch] at hcv HDT
          clear hch
          have hsz : (digT j n).size < 1600 := by rw [digT_size]; exact few_digits hx200 (by rw [← HM.out]; exact hz)
          go_wp2_with fail
          have HOA := Lib.hid (HO2.out.alloc (.cells #[.int .u8 (48 + (d : Int))] 5))
          have HBA := Lib.hid (HBQ.out.alloc HBQ.out.size (.cells #[.int .u8 (48 + (d : Int))] 5))
          have hBA : w1.heap.size ≤ (wr.alloc (.cells #[.int .u8 (48 + (d : Int))] 5)).heap.size := by rw [World.size_alloc]; omega
          generalize wr.alloc (.cells #[.int .u8 (48 + (d : Int))] 5) = wa at *
          rw [HDT.out]
          clear hcv
          go_loop [3] (fun l => ∃ k : Nat, k ≤ zs.length ∧ l = .slice (some ⟨g, 0, none⟩) k cap1 ∧ ∀ i : Nat, k ≤ i → M.el zs i = 0) (fun l => lenOf l)
          case atStart => exact ⟨(M.dig m).length, by rw [HLEN.out]; exact Nat.le_refl _, rfl, fun i hi => M.el_ge (by rw [HLEN.out]; exact hi)⟩
          case round =>
            obtain ⟨k, hk, rfl, hzz⟩ := hrel
            have HZZ := Lib.hid hzz
            have hkl : k ≤ (M.dig m).length := by rw [← HLEN.out]; exact hk
            have HK := Lib.hid hk
            clear hzz hk
            by_cases hgo : 0 < k ∧ M.el zs (k - 1) = 0
            · obtain ⟨h0, he⟩ := hgo
              obtain ⟨_, hc, _⟩ := HOA.out.at (k - 1) (by have := HK.out; omega)
              rw [he] at hc
              have HE := Lib.hid he
              clear he
              have e1 : ((k : Int) - 1).toNat = k - 1 := by omega
              go_wp2_with fail
              go_round
              case rel => exact ⟨k - 1, by have := HK.out; omega, by congr 1, fun i hi => by
                rcases Nat.lt_or_ge i k with h | h
                · rw [show i = k - 1 by omega]; exact HE.out
                · exact HZZ.out i h⟩
              case measure => simp [lenOf]; omega
            · have hst : (M.trimL zs).length = k := trimL_stop HK.out HZZ.out (by
                rcases Nat.eq_zero_or_pos k with h | h
                · exact .inl h
                · exact .inr (fun e => hgo ⟨h, e⟩))
              have htk : zs.take k = M.dig (m / 10) := by rw [← HZ0.out, ← hst, M.trimL_take]
              have hcut := HOA.out.cutTo k HK.out (by rw [HLEN.out]; exact hl)
              rw [htk] at hcut
              have hkd : k = (M.dig (m / 10)).length := by rw [← HZ0.out]; exact hst.symm
              have hmn : m / 10 = n / 10 ^ (j + 1) := by rw [HM.out, Nat.div_div_eq_div_mul, Nat.pow_succ]
              have HFIN : Hid (RPrRel w n w1.heap.size (.slice (some ⟨g, 0, none⟩) k cap1) (.string (digT (j + 1) n)) wa) :=
                ⟨j + 1, some ⟨g, 0, none⟩, cap1, by rw [← hmn, ← hkd], rfl, fun _ => by rw [Nat.add_sub_cancel, ← HM.out]; exact hz, by rw [← hmn, ← hkd]; exact hcut, HBA.out, hBA⟩
              have hs1 := digT_size (j + 1) n
              have hs0 := digT_size j n
              have hfin : ∀ (P : Prop), (0 < k → (decide (M.el zs (k - 1) = 0) = false) → P) → (k = 0 → P) → P := fun P h1 h2 => by
                rcases Nat.eq_zero_or_pos k with h | h
                · exact h2 h
                · exact h1 h (decide_eq_false fun e => hgo ⟨h, e⟩)
              have HS1 := Lib.hid hs1
              have HS0 := Lib.hid hs0
              clear hst htk hcut hkd hmn hgo hs1 hs0
              refine hfin _ ?_ ?_
              · intro h0 hne
                obtain ⟨_, hc, _⟩ := HOA.out.at (k - 1) (by have := HK.out; omega)
                have e1 : ((k : Int) - 1).toNat = k - 1 := by omega
                have hne2 : (M.el zs (k - 1) == 0) = false := by rw [beq_eq_false_iff_ne]; exact of_decide_eq_false hne
                clear hne hfin
                go_wp2_with fail
                go_roundw
                case rel => exact HFIN.out
                case measure => simp [sizeOfS, HS1.out, HS0.out]; rw [HS0.out] at hsz; omega
              · intro h0
                subst h0
                clear hfin
                go_wp2_with fail
                go_roundw
                case rel => exact HFIN.out
                case measure => simp [sizeOfS, HS1.out, HS0.out]; rw [HS0.out] at hsz; omega
        · obtain ⟨t, rfl⟩ : ∃ t, k = t + 1 := ⟨k - 1, by omega⟩
          have hrest := M.shr_rest 10 (by omega) ((M.dig m).drop (t + 1))
          have hel := (M.lim_dig m).get t
          have hcell := HO2.out.at t (by rw [HLEN.out]; omega)
          obtain ⟨_, hc, hf⟩ := hcell
          rw [HZS.out, M.shrAt_el 10 (M.dig m) (t + 1) t (by omega) (by omega)] at hc
          have hdrop := M.shr_drop 10 (M.dig m) t (by omega)
          have hset := M.shrAt_set 10 (M.dig m) t (by omega)
          have HDROP := Lib.hid hdrop
          have HSET := Lib.hid hset
          obtain ⟨h1, h2⟩ := hrest
          obtain ⟨h3, h4⟩ := hel
          clear hdrop hset
          generalize (M.shr 10 ((M.dig m).drop (t + 1))).1 = q at *
          generalize M.el (M.dig m) t = z at *
          have ecast : ((t + 1 : Nat) : Int) - 1 = (t : Int) := by omega
          rw [ecast]
          have HE := Lib.hid ecast
          clear ecast
          go_wp2_with fail
          go_roundw
          case rel =>
            refine ⟨t, zs.set t ((q * 16777216 + z) / 10), by omega, rfl, by rw [HDROP.out], ?_, ?_, ?_, ?_⟩
            · rw [HZS.out]; exact HSET.out
            · rw [List.length_set]; exact HO2.out.set t _
            · exact HBQ.out.setCell (p := ⟨g, t, none⟩) (by show w.heap.size ≤ g; omega) _
            · simpa [World.setCell] using hBq
          case measure => simp [intOf]

set_option maxRecDepth 100000 in
set_option maxHeartbeats 2000000 in
theorem rprint_zero (a : Option Addr) (ca : Nat) (w : World) (hA : Row w a (M.dig 0) ca) :
    Calls Tryd.prog 68 #[.agg #[.slice a (M.dig 0).length ca]] w fun e W' => e = .returned (.string ⟨#[48]⟩) ∧ Below w.heap.size w W' := by
  have HV := Lib.hid (vld_dig (n := 0) (by rw [M.dig_zero]; exact Nat.zero_le _))
  have c0 := cell_new w (.slice a (M.dig 0).length ca) 24
  have HB0 := Lib.hid ((Below.refl _ w).alloc (Nat.le_refl _) (.cells #[.slice a (M.dig 0).length ca] 24))
  have HA := Lib.hid (hA.below HB0.out)
  have hd : decide (0 < (M.dig 0).length) = false := by rw [M.dig_zero]; rfl
  have HD := Lib.hid hd
  clear hA hd
  go_enter Tryd.func68, Tryd.ntmps68
  go_wp2_with fail
  generalize w.alloc (.cells #[.slice a (M.dig 0).length ca] 24) = w0 at *
  refine (rvalid_yes a _ ca _ HA.out HV.out).mono ?_
  rintro e w1 ⟨rfl, hb1⟩
  have c1 := cell_below hb1 c0
  have HA1 := Lib.hid (HA.out.below hb1)
  have HB1 := Lib.hid (HB0.out.trans (hb1.mono HB0.out.size))
  have hz : (M.dig 0).length < 1000000 := by rw [M.dig_zero]; decide
  clear hb1 c0 HB0 HA
  go_wp2_with (at_builtin; refine wpList_appAny rfl _ _ rfl rfl (Own.nil w1 w1.heap.size) rfl HA1.out (by simp; omega) (Nat.le_refl _) ?_; intro a' cap' W' hown' hb')
  have HB2 := Lib.hid (HB1.out.trans (hb'.mono HB1.out.size))
  clear hown' hb' HB1 HA1 c1 hz
  go_wp2_with fail
  go_loopw [3, 4] (fun l s wr => l = .slice a' (M.dig 0).length cap' ∧ s = .string ⟨#[]⟩ ∧ wr = W') (fun _ _ _ => 0)
  case atStart => exact ⟨rfl, rfl, rfl⟩
  case round =>
    obtain ⟨rfl, rfl, rfl⟩ := hrel
    have hd := HD.out
    go_wp2_with fail
    go_ret
    exact ⟨rfl, HB2.out⟩
set_option maxRecDepth 100000 in
theorem rprint_bad (a : Option Addr) (ca : Nat) (zs : List Int) (w : World) (hV : ¬ Vld zs) (hA : Row w a zs ca) :
    Calls Tryd.prog 68 #[.agg #[.slice a zs.length ca]] w fun e W' => e = .returned (.string ⟨#[]⟩) ∧ Below w.heap.size w W' := by
  have HB0 := Lib.hid ((Below.refl _ w).alloc (Nat.le_refl _) (.cells #[.slice a zs.length ca] 24))
  have HA := Lib.hid (hA.below HB0.out)
  have HV := Lib.hid hV
  clear hA hV
  go_enter Tryd.func68, Tryd.ntmps68
  go_wp2_with fail
  refine (rvalid_no a _ ca _ HA.out HV.out).mono ?_
  rintro e w1 ⟨rfl, hb1⟩
  have HB1 := Lib.hid (HB0.out.trans (hb1.mono HB0.out.size))
  clear hb1 HB0
  go_wp2_with fail
  go_ret
  exact ⟨rfl, HB1.out⟩
set_option maxRecDepth 100000 in
theorem print_bad (a : Option Addr) (ca : Nat) (zs : List Int) (w : World) (hV : ¬ Vld zs) (hA : Row w a zs ca) :
    Calls Tryd.prog 39 #[.agg #[.slice a zs.length ca]] w fun e W' => e = .returned (.string ⟨#[]⟩) ∧ Below w.heap.size w W' := by
  have HB0 := Lib.hid ((Below.refl _ w).alloc (Nat.le_refl _) (.cells #[.slice a zs.length ca] 24))
  have HA := Lib.hid (hA.below HB0.out)
  have HV := Lib.hid hV
  clear hA hV
  go_enter Tryd.func39, Tryd.ntmps39
  go_wp2_with fail
  refine (valid_no a _ ca _ HA.out HV.out).mono ?_
  rintro e w1 ⟨rfl, hb1⟩
  have HB1 := Lib.hid (HB0.out.trans (hb1.mono HB0.out.size))
  clear hb1 HB0
  go_wp2_with fail
  go_ret
  exact ⟨rfl, HB1.out⟩
end Go.Proofs.YtfaggdjoogpmmaaDoor
