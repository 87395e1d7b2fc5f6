/- hash.Join, ref10.Join. -/
import Derived.Test.YtodiokladojnjaaHsI
namespace Go.Proofs.Ytodiokladojnjaa.B
open Go Go.RowKit Go.Shelf

theorem pair_box (w : World) (x y : Value) (t : TypeId) : (w.alloc (.cells #[x, y] t)).cell? ⟨w.heap.size, 0, none⟩ = some x ∧ (w.alloc (.cells #[x, y] t)).cell? ⟨w.heap.size, 1, none⟩ = some y := by
  have hb : (w.alloc (.cells #[x, y] t)).heap[w.heap.size]? = some (.cells #[x, y] t) := Array.getElem?_push_size
  exact ⟨by rw [cell_of_row _ _ _ _ _ _ hb]; rfl, by rw [cell_of_row _ _ _ _ _ _ hb]; rfl⟩
set_option maxRecDepth 100000 in
set_option maxHeartbeats 2000000 in
theorem rhjoin_any (a b : Option Addr) (ca cb : Nat) (R T : List V) (w : World) (hR : Row w a R ca) (hT : Row w b T cb) :
    Calls Try.prog 12 #[.slice a R.length ca, .slice b T.length cb] w fun e W => (∃ v, e = .returned (.tuple #[v, .int .i64 (joinE R T)]) ∧ SlR W v (joinR R T)) ∧ Below w.heap.size w W := by
  have HCK := Lib.hid (fun W h => rcheck_any a ca R W h)
  have HCT := Lib.hid (fun W h => rcheck_any b cb T W h)
  have HR := Lib.hid hR
  have HT := Lib.hid hT
  have hroom := hR.room
  have hmost := hR.most
  have hroomT := hT.room
  have hmostT := hT.most
  clear hR hT
  obtain ⟨c, hc⟩ : ∃ c, chkE R = c := ⟨_, rfl⟩
  obtain ⟨d, hd⟩ : ∃ d, chkE T = d := ⟨_, rfl⟩
  have hJ : joinE R T = if c = 0 then (if d = 0 then (if R.length = T.length then 0 else 7) else d) else c := by unfold joinE; rw [hc, hd]
  have hL : joinE R T ≠ 0 ∨ R.length = 0 → joinR R T = [] := fun h => by
    unfold joinR
    rw [if_neg]
    rintro ⟨h1, h2⟩
    rcases h with h | h
    · exact h h1
    · exact h2 h
  have hY : joinE R T = 0 ∧ R.length ≠ 0 → joinR R T = mulR T.length R.length T R := fun h => by unfold joinR; rw [if_pos h]
  have hM : c = 0 → d = 0 → R.length = T.length → R.length ≠ 0 → mulE T.length R.length T R = 0 := fun h1 h2 h3 h4 => mulE_is (Gd.of (hd.trans h2) (by omega)).mv (Gd.of (hc.trans h1) h4).mv h3.symm
  rw [hc] at HCK
  rw [hd] at HCT
  generalize joinE R T = je at hJ hL hY ⊢
  generalize joinR R T = jr at hL hY ⊢
  have HJ := Lib.hid hJ
  have HL := Lib.hid hL
  have HY := Lib.hid hY
  have HM := Lib.hid hM
  clear hJ hL hY hM hc hd
  go_enter Try.func12, Try.ntmps12
  go_wp2_with fail
  refine (HCK.out w HR.out).mono ?_
  rintro e w1 ⟨rfl, hb1⟩
  have HB1 := Lib.hid hb1
  have HR1 := Lib.hid (HR.out.below hb1)
  have HT1 := Lib.hid (HT.out.below hb1)
  clear hb1
  by_cases h0 : c = 0
  · have hn0 : (c != 0) = false := by rw [h0]; rfl
    have HC0 := Lib.hid h0
    clear h0
    go_wp2_with fail
    refine (HCT.out w1 HT1.out).mono ?_
    rintro e w8 ⟨rfl, hb8⟩
    have HB8 := Lib.hid (HB1.out.trans (hb8.mono HB1.out.size))
    have HR8 := Lib.hid (HR1.out.below hb8)
    have HT8 := Lib.hid (HT1.out.below hb8)
    clear hb8
    by_cases h0 : d = 0
    · have hn1 : (d != 0) = false := by rw [h0]; rfl
      have HD0 := Lib.hid h0
      clear h0
      by_cases hl : R.length = T.length
      · have hli : ((R.length : Int) != (T.length : Int)) = false := by rw [hl]; exact bne_self_eq_false _
        have HE := Lib.hid (show je = 0 by rw [HJ.out, if_pos HC0.out, if_pos HD0.out, if_pos hl])
        by_cases h0 : R.length = 0
        · have h0i : ((R.length : Int) == 0) = true := by rw [h0]; rfl
          have HN := Lib.hid (HL.out (Or.inr h0))
          clear hl h0
          go_wp2_with fail
          rw [HE.out, HN.out]
          exact bodyPost_ret (v := .tuple #[.slice none 0 0, .int .i64 0]) (by simp [results, Try.results12, go_sem]) rfl ⟨⟨_, rfl, SlR.nil _⟩, HB8.out⟩
        · have h0i : ((R.length : Int) == 0) = false := beq_eq_false_iff_ne.2 (by omega)
          have HYY := Lib.hid (HY.out ⟨HE.out, h0⟩)
          have HME := Lib.hid (HM.out HC0.out HD0.out hl h0)
          have HMU := Lib.hid (fun W p q => rmul_any T.length R.length b a cb ca T R W p q)
          obtain ⟨L, hL⟩ : ∃ L, mulR T.length R.length T R = L := ⟨_, rfl⟩
          have HLL := Lib.hid hL
          clear hl h0 hL
          have HB3 := Lib.hid HB8.out
          have HR3 := Lib.hid HR8.out
          have HT3 := Lib.hid HT8.out
          have HM3 := Lib.hid (HMU.out w8 HT3.out HR3.out)
          rw [HME.out, HLL.out] at HM3
          go_wp2_with fail
          refine HM3.out.mono ?_
          rintro e w4 ⟨⟨v, rfl, a4, c4, rfl, hr4, _⟩, hb4⟩
          have HB4 := Lib.hid (HB3.out.trans (hb4.mono HB3.out.size))
          have HR4 := Lib.hid hr4
          clear hb4 hr4
          go_wp2_with fail
          rw [HE.out, HYY.out, HLL.out]
          exact bodyPost_ret (v := .tuple #[.slice a4 L.length c4, .int .i64 0]) (by simp [results, Try.results12, go_sem]) rfl ⟨⟨_, rfl, ⟨a4, c4, rfl, HR4.out.alloc _⟩⟩, HB4.out.alloc HB4.out.size _⟩
      · have hli : ((R.length : Int) != (T.length : Int)) = true := bne_iff_ne.2 (by omega)
        have HE := Lib.hid (show je = 7 by rw [HJ.out, if_pos HC0.out, if_pos HD0.out, if_neg hl])
        have HN := Lib.hid (HL.out (Or.inl (by rw [HE.out]; decide)))
        clear hl
        go_wp2_with fail
        rw [HE.out, HN.out]
        exact bodyPost_ret (v := .tuple #[.slice none 0 0, .int .i64 7]) (by simp [results, Try.results12, go_sem]) rfl ⟨⟨_, rfl, SlR.nil _⟩, HB8.out⟩
    · have hn1 : (d != 0) = true := bne_iff_ne.2 h0
      have HE := Lib.hid (show je = d by rw [HJ.out, if_pos HC0.out, if_neg h0])
      have HN := Lib.hid (HL.out (Or.inl (by rw [HE.out]; exact h0)))
      clear h0
      go_wp2_with fail
      rw [HE.out, HN.out]
      exact bodyPost_ret (v := .tuple #[.slice none 0 0, .int .i64 d]) (by simp [results, Try.results12, go_sem]) rfl ⟨⟨_, rfl, SlR.nil _⟩, HB8.out⟩
  · have hn0 : (c != 0) = true := bne_iff_ne.2 h0
    have HE := Lib.hid (show je = c by rw [HJ.out, if_neg h0])
    have HN := Lib.hid (HL.out (Or.inl (by rw [HE.out]; exact h0)))
    clear h0
    go_wp2_with fail
    rw [HE.out, HN.out]
    exact bodyPost_ret (v := .tuple #[.slice none 0 0, .int .i64 c]) (by simp [results, Try.results12, go_sem]) rfl ⟨⟨_, rfl, SlR.nil _⟩, HB1.out⟩
set_option maxRecDepth 100000 in
set_option maxHeartbeats 2000000 in
theorem hjoin_any (a b : Option Addr) (ca cb : Nat) (R T : List V) (w : World) (hR : Row w a R ca) (hT : Row w b T cb) :
    Calls Try.prog 11 #[.slice a R.length ca, .slice b T.length cb] w fun e W => (∃ v, e = .returned (.tuple #[v, .int .i64 (joinE R T)]) ∧ SlR W v (joinR R T)) ∧ Below w.heap.size w W := by
  have HCK := Lib.hid (fun W h => check_any a ca R W h)
  have HCT := Lib.hid (fun W h => check_any b cb T W h)
  have HR := Lib.hid hR
  have HT := Lib.hid hT
  have hroom := hR.room
  have hmost := hR.most
  have hroomT := hT.room
  have hmostT := hT.most
  clear hR hT
  obtain ⟨c, hc⟩ : ∃ c, chkE R = c := ⟨_, rfl⟩
  obtain ⟨d, hd⟩ : ∃ d, chkE T = d := ⟨_, rfl⟩
  have hJ : joinE R T = if c = 0 then (if d = 0 then (if R.length = T.length then 0 else 7) else d) else c := by unfold joinE; rw [hc, hd]
  have hL : joinE R T ≠ 0 ∨ R.length = 0 → joinR R T = [] := fun h => by
    unfold joinR
    rw [if_neg]
    rintro ⟨h1, h2⟩
    rcases h with h | h
    · exact h h1
    · exact h2 h
  have hY : joinE R T = 0 ∧ R.length ≠ 0 → joinR R T = mulR T.length R.length T R := fun h => by unfold joinR; rw [if_pos h]
  have hM : c = 0 → d = 0 → R.length = T.length → R.length ≠ 0 → mulE T.length R.length T R = 0 := fun h1 h2 h3 h4 => mulE_is (Gd.of (hd.trans h2) (by omega)).mv (Gd.of (hc.trans h1) h4).mv h3.symm
  rw [hc] at HCK
  rw [hd] at HCT
  generalize joinE R T = je at hJ hL hY ⊢
  generalize joinR R T = jr at hL hY ⊢
  have HJ := Lib.hid hJ
  have HL := Lib.hid hL
  have HY := Lib.hid hY
  have HM := Lib.hid hM
  clear hJ hL hY hM hc hd
  go_enter Try.func11, Try.ntmps11
  have hp := pair_box w (.slice a R.length ca) (.slice b T.length cb) 22
  have hR0 := HR.out.alloc (.cells #[.slice a R.length ca, .slice b T.length cb] 22)
  have hT0 := HT.out.alloc (.cells #[.slice a R.length ca, .slice b T.length cb] 22)
  have hB0 := (Below.refl _ w).alloc (Nat.le_refl _) (.cells #[.slice a R.length ca, .slice b T.length cb] 22)
  obtain ⟨w0, hw0⟩ : ∃ w0, w.alloc (.cells #[.slice a R.length ca, .slice b T.length cb] 22) = w0 := ⟨_, rfl⟩
  rw [hw0] at hp hR0 hT0 hB0
  obtain ⟨p0, p1⟩ := hp
  have HP0 := Lib.hid p0
  have HP1 := Lib.hid p1
  have HR0 := Lib.hid hR0
  have HT0 := Lib.hid hT0
  have HB0 := Lib.hid hB0
  clear p0 p1 hR0 hT0 hB0
  go_wp2_with fail
  go_loopw [7, 8, 15] (fun _ _ i wr => ∃ k : Nat, i = .int .i64 (k : Int) ∧ k ≤ 2 ∧ (1 ≤ k → c = 0) ∧ (2 ≤ k → d = 0) ∧ Row wr a R ca ∧ Row wr b T cb ∧ wr.cell? ⟨w.heap.size, 0, none⟩ = some (.slice a R.length ca) ∧ wr.cell? ⟨w.heap.size, 1, none⟩ = some (.slice b T.length cb) ∧ Below w.heap.size w wr) (fun _ _ i _ => 2 - (intOf i).toNat)
  case atStart => exact ⟨0, rfl, by omega, fun h => absurd h (by omega), fun h => absurd h (by omega), HR0.out, HT0.out, HP0.out, HP1.out, HB0.out⟩
  case round =>
    obtain ⟨k, rfl, hk, h1, h2, hr1, ht1, c0, c1, hb⟩ := hrel
    have HR1 := Lib.hid hr1
    have HT1 := Lib.hid ht1
    have HBr := Lib.hid hb
    have HH1 := Lib.hid h1
    have HH2 := Lib.hid h2
    clear hr1 ht1 hb h1 h2
    rcases (show k = 0 ∨ k = 1 ∨ k = 2 by omega) with rfl | rfl | rfl
    · have hck := HCK.out wr HR1.out
      have HCK1 := Lib.hid hck
      clear hck
      go_wp2_with fail
      refine HCK1.out.mono ?_
      rintro e w1 ⟨rfl, hb1⟩
      have HB1 := Lib.hid (HBr.out.trans (hb1.mono HBr.out.size))
      have HR2 := Lib.hid (HR1.out.below hb1)
      have HT2 := Lib.hid (HT1.out.below hb1)
      have HP2 := Lib.hid (cell_below hb1 c0)
      have HP3 := Lib.hid (cell_below hb1 c1)
      clear hb1
      by_cases h0 : c = 0
      · have hn0 : (c != 0) = false := by rw [h0]; rfl
        have HC0 := Lib.hid h0
        clear h0
        go_wp2_with fail
        go_roundw
        case rel => exact ⟨1, by go_num, by omega, fun _ => HC0.out, fun h => absurd h (by omega), HR2.out, HT2.out, HP2.out, HP3.out, HB1.out⟩
        case measure => simp [intOf]
      · have hn0 : (c != 0) = true := bne_iff_ne.2 h0
        have HE := Lib.hid (show je = c by rw [HJ.out, if_neg h0])
        have HN := Lib.hid (HL.out (Or.inl (by rw [HE.out]; exact h0)))
        clear h0
        go_wp2_with fail
        rw [HE.out, HN.out]
        exact bodyPost_ret (v := .tuple #[.slice none 0 0, .int .i64 c]) (by simp [results, Try.results11, go_sem]) rfl ⟨⟨_, rfl, SlR.nil _⟩, HB1.out⟩
    · have hck := HCT.out wr HT1.out
      have HCK1 := Lib.hid hck
      clear hck
      go_wp2_with fail
      refine HCK1.out.mono ?_
      rintro e w1 ⟨rfl, hb1⟩
      have HB1 := Lib.hid (HBr.out.trans (hb1.mono HBr.out.size))
      have HR2 := Lib.hid (HR1.out.below hb1)
      have HT2 := Lib.hid (HT1.out.below hb1)
      have HP2 := Lib.hid (cell_below hb1 c0)
      have HP3 := Lib.hid (cell_below hb1 c1)
      clear hb1
      have HC0 := Lib.hid (HH1.out (by omega))
      by_cases h0 : d = 0
      · have hn0 : (d != 0) = false := by rw [h0]; rfl
        have HD0 := Lib.hid h0
        clear h0
        go_wp2_with fail
        go_roundw
        case rel => exact ⟨2, by go_num, by omega, fun _ => HC0.out, fun _ => HD0.out, HR2.out, HT2.out, HP2.out, HP3.out, HB1.out⟩
        case measure => simp [intOf]
      · have hn0 : (d != 0) = true := bne_iff_ne.2 h0
        have HE := Lib.hid (show je = d by rw [HJ.out, if_pos HC0.out, if_neg h0])
        have HN := Lib.hid (HL.out (Or.inl (by rw [HE.out]; exact h0)))
        clear h0
        go_wp2_with fail
        rw [HE.out, HN.out]
        exact bodyPost_ret (v := .tuple #[.slice none 0 0, .int .i64 d]) (by simp [results, Try.results11, go_sem]) rfl ⟨⟨_, rfl, SlR.nil _⟩, HB1.out⟩
    · have HC0 := Lib.hid (HH1.out (by omega))
      have HD0 := Lib.hid (HH2.out (by omega))
      have HR8 := Lib.hid HR1.out
      have HT8 := Lib.hid HT1.out
      have HB8 := Lib.hid HBr.out
      clear HR0 HT0 HB0 HP0 HP1
      by_cases hl : R.length = T.length
      · have hli : ((R.length : Int) != (T.length : Int)) = false := by rw [hl]; exact bne_self_eq_false _
        have HE := Lib.hid (show je = 0 by rw [HJ.out, if_pos HC0.out, if_pos HD0.out, if_pos hl])
        by_cases h0 : R.length = 0
        · have h0i : ((R.length : Int) == 0) = true := by rw [h0]; rfl
          have HN := Lib.hid (HL.out (Or.inr h0))
          clear hl h0
          go_wp2_with fail
          rw [HE.out, HN.out]
          exact bodyPost_ret (v := .tuple #[.slice none 0 0, .int .i64 0]) (by simp [results, Try.results11, go_sem]) rfl ⟨⟨_, rfl, SlR.nil _⟩, HB8.out⟩
        · have h0i : ((R.length : Int) == 0) = false := beq_eq_false_iff_ne.2 (by omega)
          have HYY := Lib.hid (HY.out ⟨HE.out, h0⟩)
          have HME := Lib.hid (HM.out HC0.out HD0.out hl h0)
          have HMU := Lib.hid (fun W p q => mul_any T.length R.length b a cb ca T R W p q)
          obtain ⟨L, hL⟩ : ∃ L, mulR T.length R.length T R = L := ⟨_, rfl⟩
          have HLL := Lib.hid hL
          clear hl h0 hL
          have HS1 := Lib.hid (square_any b T.length cb)
          have HS2 := Lib.hid (square_any a R.length ca)
          go_wp2_with fail
          refine (HS1.out wr).mono ?_
          rintro e w9 ⟨rfl, hb9⟩
          have HB9 := Lib.hid (HB8.out.trans (hb9.mono HB8.out.size))
          have HR9 := Lib.hid (HR8.out.below hb9)
          have HT9 := Lib.hid (HT8.out.below hb9)
          clear hb9
          go_wp2_with fail
          refine (HS2.out w9).mono ?_
          rintro e w3 ⟨rfl, hb3⟩
          have HB3 := Lib.hid (HB9.out.trans (hb3.mono HB9.out.size))
          have HR3 := Lib.hid (HR9.out.below hb3)
          have HT3 := Lib.hid (HT9.out.below hb3)
          clear hb3
          have HM3 := Lib.hid (HMU.out w3 HT3.out HR3.out)
          rw [HME.out, HLL.out] at HM3
          go_wp2_with fail
          refine HM3.out.mono ?_
          rintro e w4 ⟨⟨v, rfl, a4, c4, rfl, hr4, _⟩, hb4⟩
          have HB4 := Lib.hid (HB3.out.trans (hb4.mono HB3.out.size))
          have HR4 := Lib.hid hr4
          clear hb4 hr4
          go_wp2_with fail
          rw [HE.out, HYY.out, HLL.out]
          exact bodyPost_ret (v := .tuple #[.slice a4 L.length c4, .int .i64 0]) (by simp [results, Try.results11, go_sem]) rfl ⟨⟨_, rfl, ⟨a4, c4, rfl, HR4.out.alloc _⟩⟩, HB4.out.alloc HB4.out.size _⟩
      · have hli : ((R.length : Int) != (T.length : Int)) = true := bne_iff_ne.2 (by omega)
        have HE := Lib.hid (show je = 7 by rw [HJ.out, if_pos HC0.out, if_pos HD0.out, if_neg hl])
        have HN := Lib.hid (HL.out (Or.inl (by rw [HE.out]; decide)))
        clear hl
        go_wp2_with fail
        rw [HE.out, HN.out]
        exact bodyPost_ret (v := .tuple #[.slice none 0 0, .int .i64 7]) (by simp [results, Try.results11, go_sem]) rfl ⟨⟨_, rfl, SlR.nil _⟩, HB8.out⟩

end Go.Proofs.Ytodiokladojnjaa.B
