/- poly.Through. -/
import Derived.Test.YtfbogjibofeckaaPThru
namespace Go.Proofs.Ytfbogjibofeckaa.P
open Go Go.RowKit Go.Shelf

def ThruRel (w : World) (g n : Nat) (xs ys : List PM.G) (nv iv : Value) (W : World) : Prop :=
  ∃ (i : Nat) (N C : List PM.G) (aN : Option Addr) (cN : Nat), iv = .int .i64 (i : Int) ∧ i ≤ n ∧ nv = .slice aN N.length cN ∧ Row W aN N cN ∧ (∀ b o, aN = some ⟨b, o, none⟩ → b ≠ g) ∧ Nul xs N i ∧ Own W w.heap.size (.slice (some ⟨g, 0, none⟩) n n) C ∧ C.length = n ∧ Thr xs ys C i ∧
    (∀ s t, s < t → t < i → PM.el xs s ≠ PM.el xs t) ∧ Below w.heap.size w W
/-- What Through gives. -/
def TRes (xs ys : List PM.G) (e : Ending) (W : World) : Prop :=
  (¬ Dist xs ∧ e = .returned (.tuple #[.slice none 0 0, .int .i64 8])) ∨ (Dist xs ∧ ∃ P a c, e = .returned (.tuple #[.slice a (List.length P) c, .int .i64 0]) ∧ Row W a P c ∧ PM.Can P ∧ P.length ≤ xs.length ∧ Thr xs ys P xs.length)
def dvG (a b : PM.G) : PM.G := ⟨FM.divV a.v b.v, by unfold FM.divV; split; decide; exact FM.mul_lt a.lt⟩
theorem fdiv_any (a b : PM.G) (w : World) :
    Calls Try.prog 39 #[.int .u8 (a.v : Int), .int .u8 (b.v : Int)] w fun e w' => e = .returned (.tuple #[.int .u8 ((dvG a b).v : Int), .int .i64 (FM.errZ b.v)]) ∧ Dr w w' := divide_any a.v b.v a.lt b.lt w

set_option maxRecDepth 100000 in
set_option maxHeartbeats 2000000 in
theorem through_any (a b : Option Addr) (ca cb : Nat) (xs ys : List PM.G) (w : World) (ha : Row w a xs ca) (hb : Row w b ys cb) (hlen : ys.length = xs.length) (hl : xs.length ≤ 255) :
    Calls Try.prog 16 #[.slice a xs.length ca, .slice b ys.length cb] w fun e W => TRes xs ys e W ∧ Below w.heap.size w W := by
  have hra := ha.room
  have hma := ha.most
  have hrb := hb.room
  have hmb := hb.most
  have HA := Lib.hid ha
  have HB := Lib.hid hb
  clear ha hb
  obtain ⟨n, hn⟩ : ∃ n, xs.length = n := ⟨_, rfl⟩
  rw [hn] at hlen hl hra
  rw [hlen] at hrb
  rw [hlen, hn]
  have HLY := Lib.hid hlen
  have HN := Lib.hid hn
  clear hlen hn
  go_enter Try.func16, Try.ntmps16
  go_wp2_with (at_make; refine wpList_make1 rfl _ _ rfl n rfl rfl rfl (by omega) (B := w.heap.size) (Nat.le_refl _) ?_; intro w2 hown2 hb2; rw [List.length_replicate] at hown2; have HO2 := Lib.hid hown2; have HB2 := Lib.hid hb2; clear hown2 hb2)
  have hr1 := row_one w2 PM.G.one 5
  rw [one_int] at hr1
  have hs2 := HB2.out.size
  have hg2 : w.heap.size < w2.heap.size := by
    rcases HO2.out.parts with ⟨e, _⟩ | ⟨g', c', e, _, h, _⟩
    · cases e
    · simp only [Value.slice.injEq, Option.some.injEq, Addr.mk.injEq] at e; omega
  obtain ⟨g, hg⟩ : ∃ g, w.heap.size = g := ⟨_, rfl⟩
  have hst : ThruRel w g n xs ys (.slice (some ⟨w2.heap.size, 0, none⟩) 1 1) (.int .i64 0) (w2.alloc (.cells #[.int .u8 1] 5)) :=
    ⟨0, [PM.G.one], _, some ⟨w2.heap.size, 0, none⟩, 1, rfl, Nat.zero_le _, rfl, hr1, fun b o e => by cases e; omega, nul_start xs, by rw [← hg]; exact HO2.out.alloc _, List.length_replicate, ⟨fun t ht => absurd ht (Nat.not_lt_zero _), fun j _ => PM.el_replicate n j⟩, fun s t _ ht => absurd ht (Nat.not_lt_zero _), HB2.out.alloc hs2 _⟩
  have HST := Lib.hid hst
  rw [hg]
  clear hst hr1 HO2 HB2 hs2
  go_loopw [7, 29] (fun nv iv wr => ThruRel w g n xs ys nv iv wr) (fun _ i _ => n - (intOf i).toNat)
  case atStart => exact HST.out
  case round =>
    clear HST
    obtain ⟨i, N, C, aN, cN, rfl, hi, rfl, hrN, hfN, hnul, hown, hCl, hthr, hdis, hB⟩ := hrel
    have hrn := hrN.room
    have hmn := hrN.most
    have HRN := Lib.hid hrN
    have HFN := Lib.hid hfN
    have HNU := Lib.hid hnul
    have HO := Lib.hid hown
    have HCL := Lib.hid hCl
    have HTH := Lib.hid hthr
    have HDI := Lib.hid hdis
    have HBW := Lib.hid hB
    have hAW := HA.out.below hB
    have hBW := HB.out.below hB
    have hNl : N.length = i + 1 := hnul.len
    have HNL := Lib.hid hNl
    clear hrN hfN hnul hown hCl hthr hdis hB
    by_cases hlt : i < n
    · obtain ⟨b1, o1, rfl, hcx⟩ := hAW.el i (by rw [HN.out]; exact hlt)
      obtain ⟨b2, o2, rfl, hcy⟩ := hBW.el i (by rw [HLY.out]; exact hlt)
      obtain ⟨x, hx⟩ : ∃ x, PM.el xs i = x := ⟨_, rfl⟩
      obtain ⟨y, hy⟩ : ∃ y, PM.el ys i = y := ⟨_, rfl⟩
      rw [hx] at hcx
      rw [hy] at hcy
      have HX := Lib.hid hx
      have HY := Lib.hid hy
      have HCY := Lib.hid hcy
      have hEv := eval_any aN cN N x wr HRN.out
      obtain ⟨s, hs⟩ : ∃ s, PM.ev N x = s := ⟨_, rfl⟩
      rw [hs] at hEv
      have HEV := Lib.hid hEv
      have HS := Lib.hid hs
      clear hx hy hEv hs hAW hBW hNl hcy
      have hwr := HBW.out.size
      go_wp2_with fail
      (with_reducible refine HEV.out.mono ?_)
      rintro e w3 ⟨rfl, hb3⟩
      have HRN3 := Lib.hid (HRN.out.below hb3)
      have HO3 := Lib.hid (HO.out.below hb3)
      have hcy3 := cell_below hb3 HCY.out
      have HB3 := Lib.hid (HBW.out.trans (hb3.mono hwr))
      clear hb3 hcx HEV HRN HO HBW HCY
      by_cases hs0 : s = 0
      · have hz := gv_eq0 hs0
        have hnd : ¬ Dist xs := fun hD => by
          obtain ⟨t, ht, he⟩ := (HNU.out.zero x).1 (HS.out.trans hs0)
          exact hD t i ht (by rw [HN.out]; exact hlt) (he.trans HX.out.symm)
        have HND := Lib.hid hnd
        clear hs0 hnd
        go_wp2_with fail
        exact bodyPost_ret (v := .tuple #[.slice none 0 0, .int .i64 8]) (by simp [results, Try.results16, go_sem]) rfl ⟨.inl ⟨HND.out, rfl⟩, HB3.out⟩
      · have hz := gv_neq hs0
        have HS0 := Lib.hid hs0
        clear hs0
        have hEC := eval_any (some ⟨g, 0, none⟩) n C x w3.drew ((show Row w3 (some ⟨g, 0, none⟩) C n from (show Own w3 w.heap.size (.slice (some ⟨g, 0, none⟩) C.length n) C by rw [HCL.out]; exact HO3.out).rowAt).drewN 1)
        rw [HCL.out] at hEC
        have HEC := Lib.hid hEC
        clear hEC
        have hmx : Try.prog.follows .mixedOrders = true := by kernel_rfl
        have hyl : (i : Int) < (n : Int) := by omega
        go_wp2_with fail
        refine wp_region_held (S := fun W' => W'.cell? ⟨b2, o2 + i, none⟩ = some (.int .u8 (y.v : Int))) hmx ?_
        have hHeld := (show (fun W' : World => W'.cell? ⟨b2, o2 + i, none⟩ = some (.int .u8 (y.v : Int))) w3.drew from hcy3)
        refine wpAnyH_at 0 (some 40) (v := ?_) rfl rfl (by kernel_rfl) (by kernel_rfl) (by kernel_rfl) (fun _ _ _ h => h) (Or.inl ⟨by rfl, ?_⟩) hHeld ?_
        rotate_left
        · (intro W2 hSw; have j1 := hSw; go_simp; try with_reducible rfl)
        simp only [Act.put, List.setIfInBounds_toArray, List.set_cons_zero, List.set_cons_succ]
        refine wpAnyH_at 1 (some 41) (v := ?_) rfl rfl (by kernel_rfl) (by kernel_rfl) (by kernel_rfl) (fun _ _ _ h => h) (Or.inl ⟨by rfl, ?_⟩) hHeld ?_
        rotate_left
        · (intro W2 hSw; have j1 := hSw; go_simp; try with_reducible rfl)
        simp only [Act.put, List.setIfInBounds_toArray, List.set_cons_zero, List.set_cons_succ]
        refine wpAnyH_at 3 (some 43) (v := ?_) rfl rfl (by kernel_rfl) (by kernel_rfl) (by kernel_rfl) (fun _ _ _ h => h) (Or.inl ⟨by rfl, ?_⟩) hHeld ?_
        rotate_left
        · (intro W2 hSw; have j1 := hSw; go_simp; try with_reducible rfl)
        simp only [Act.put, List.setIfInBounds_toArray, List.set_cons_zero, List.set_cons_succ]
        refine wpAnyH_at 4 (some 44) (v := ?_) rfl rfl (by kernel_rfl) (by kernel_rfl) (by kernel_rfl) (fun _ _ _ h => h) (Or.inl ⟨by rfl, ?_⟩) hHeld ?_
        rotate_left
        · (intro W2 hSw; have j1 := hSw; go_simp; try with_reducible rfl)
        simp only [Act.put, List.setIfInBounds_toArray, List.set_cons_zero, List.set_cons_succ]
        refine wpAnyH_at 5 (some 45) (v := ?_) rfl rfl (by kernel_rfl) (by kernel_rfl) (by kernel_rfl) (fun _ _ _ h => h) (Or.inl ⟨by rfl, ?_⟩) hHeld ?_
        rotate_left
        · (intro W2 hSw; have j1 := hSw; go_simp; try with_reducible rfl)
        simp only [Act.put, List.setIfInBounds_toArray, List.set_cons_zero, List.set_cons_succ]
        refine wpAnyH_at 6 (some 46) (v := ?_) rfl rfl (by kernel_rfl) (by kernel_rfl) (by kernel_rfl) (fun _ _ _ h => h) (Or.inl ⟨by rfl, ?_⟩) hHeld ?_
        rotate_left
        · (intro W2 hSw; have j1 := hSw; go_simp; try with_reducible rfl)
        simp only [Act.put, List.setIfInBounds_toArray, List.set_cons_zero, List.set_cons_succ]
        refine wpAnyH_at 8 (some 48) (v := ?_) rfl rfl (by kernel_rfl) (by kernel_rfl) (by kernel_rfl) (fun _ _ _ h => h) (Or.inl ⟨by rfl, ?_⟩) hHeld ?_
        rotate_left
        · (intro W2 hSw; have j1 := hSw; go_simp; try with_reducible rfl)
        simp only [Act.put, List.setIfInBounds_toArray, List.set_cons_zero, List.set_cons_succ]
        refine wpAnyH_ready (rs := [2]) (by kernel_rfl) (by simp) ?_
        refine AllReadyH.cons rfl (fun K hK => ?_) AllReadyH.nil
        go_simp
        (with_reducible refine HEC.out.mono ?_)
        rintro e w4 ⟨rfl, hb4⟩
        have hcy4 : w4.cell? ⟨b2, o2 + i, none⟩ = some (.int .u8 (y.v : Int)) := cell_below hb4 hcy3
        have HRN4 := Lib.hid ((HRN3.out.drewN 1).below hb4)
        have HO4 := Lib.hid ((HO3.out.drewN 1).below hb4)
        have HB4 := Lib.hid ((belowN HB3.out 1).trans (hb4.mono HB3.out.size))
        refine hK.out _ _ hcy4 (fun hHeld => ?_)
        clear hK K hb4 HRN3 HO3 HB3 hcy3
        refine wpAnyH_at 7 (some 47) (v := ?_) rfl rfl (by kernel_rfl) (by kernel_rfl) (by kernel_rfl) (fun _ _ _ h => h) (Or.inl ⟨by rfl, ?_⟩) hHeld ?_
        rotate_left
        · (intro W2 hSw; have j1 := hSw; go_simp; try with_reducible rfl)
        simp only [Act.put, List.setIfInBounds_toArray, List.set_cons_zero, List.set_cons_succ]
        refine wpAnyH_ready (rs := [9]) (by kernel_rfl) (by simp) ?_
        refine AllReadyH.cons rfl (fun K hK => ?_) AllReadyH.nil
        go_simp
        rw [xor_G]
        (with_reducible refine (fdiv_any _ _ _).mono ?_)
        rintro e w5 ⟨rfl, m5, hm5⟩
        have hcy5 : w5.cell? ⟨b2, o2 + i, none⟩ = some (.int .u8 (y.v : Int)) := by rw [hm5]; exact hcy4
        have HRN5 := Lib.hid (show Row w5 aN N cN by rw [hm5]; exact HRN4.out.drewN m5)
        have HO5 := Lib.hid (show Own w5 w.heap.size (.slice (some ⟨g, 0, none⟩) n n) C by rw [hm5]; exact HO4.out.drewN m5)
        have HB5 := Lib.hid (show Below w.heap.size w w5 by rw [hm5]; exact belowN HB4.out m5)
        refine hK.out _ _ hcy5 (fun hHeld => ?_)
        clear hK K hm5 HRN4 HO4 HB4 hcy4
        refine wpAnyH_at 10 (some 39) (v := ?_) rfl rfl (by kernel_rfl) (by kernel_rfl) (by kernel_rfl) (fun _ _ _ h => h) (Or.inl ⟨by rfl, ?_⟩) hHeld ?_
        rotate_left
        · (intro W2 hSw; have j1 := hSw; go_simp; try with_reducible rfl)
        simp only [Act.put, List.setIfInBounds_toArray, List.set_cons_zero, List.set_cons_succ]
        refine wpAnyH_at 11 (some 50) (v := ?_) rfl rfl (by kernel_rfl) (by kernel_rfl) (by kernel_rfl) (fun _ _ _ h => h) (Or.inl ⟨by rfl, ?_⟩) hHeld ?_
        rotate_left
        · (intro W2 hSw; have j1 := hSw; go_simp; try with_reducible rfl)
        simp only [Act.put, List.setIfInBounds_toArray, List.set_cons_zero, List.set_cons_succ]
        refine wpAnyH_at 12 (some 51) (v := ?_) rfl rfl (by kernel_rfl) (by kernel_rfl) (by kernel_rfl) (fun _ _ _ h => h) (Or.inl ⟨by rfl, ?_⟩) hHeld ?_
        rotate_left
        · (intro W2 hSw; have j1 := hSw; go_simp; try with_reducible rfl)
        simp only [Act.put, List.setIfInBounds_toArray, List.set_cons_zero, List.set_cons_succ]
        refine wpAnyH_at 13 (some 11) (v := ?_) rfl rfl (by kernel_rfl) (by kernel_rfl) (by kernel_rfl) (fun _ _ _ h => h) (Or.inl ⟨by rfl, ?_⟩) hHeld ?_
        rotate_left
        · (intro W2 hSw; have j1 := hSw; go_simp; try with_reducible rfl)
        simp only [Act.put, List.setIfInBounds_toArray, List.set_cons_zero, List.set_cons_succ]
        refine wpAnyH_at 14 (some 12) (v := ?_) rfl rfl (by kernel_rfl) (by kernel_rfl) (by kernel_rfl) (fun _ _ _ h => h) (Or.inl ⟨by rfl, ?_⟩) hHeld ?_
        rotate_left
        · (intro W2 hSw; have j1 := hSw; go_simp; try with_reducible rfl)
        simp only [Act.put, List.setIfInBounds_toArray, List.set_cons_zero, List.set_cons_succ]
        refine wpAnyH_done (by kernel_rfl) ?_ _
        obtain ⟨f, hf⟩ : ∃ f, dvG (PM.ev C x + y) s = f := ⟨_, rfl⟩
        have hfm : f * s = PM.ev C x + y := by rw [← hf]; exact div_mul _ _ HS0.out
        rw [hf]
        have HF := Lib.hid hfm
        clear hf hfm
        have ht := addMul_any w.heap.size g n 0 n n cN C N aN f w5 (by rw [HCL.out]; exact HO5.out) HRN5.out (by have := HNL.out; have := HCL.out; omega) (by have := HNL.out; omega) (Nat.le_refl _) (by omega) (fun _ b' o e => HFN.out b' o e)
        have HT := Lib.hid ht
        clear ht hHeld hcy5
        go_wp2_with fail
        (with_reducible refine HT.out.mono ?_)
        rintro e w6 ⟨C', rfl, hl6, hel6, ho6, hg6⟩
        rw [hl6, HCL.out] at ho6
        have hC6 : C'.length = n := by rw [hl6, HCL.out]
        have hel : ∀ j, PM.el C' j = PM.el C j + f * PM.el N j := fun j => by rw [hel6, if_neg (Nat.not_lt_zero _), Nat.sub_zero]
        have hthr := thr_step HTH.out HNU.out hel (by rw [HX.out, HS.out, HY.out]; exact HF.out)
        have HRN6 := Lib.hid (HRN5.out.grown hg6 (fun b' o e => by have := HFN.out b' o e; intro h; cases h; exact this rfl))
        have HO6 := Lib.hid ho6
        have HB6 := Lib.hid (HB5.out.grown hg6 HB5.out.size (fun k e => by cases e; omega))
        have HTH6 := Lib.hid hthr
        have HC6 := Lib.hid hC6
        clear hg6 ho6 hel6 hl6 hthr hel hC6 HT HO5 HRN5 HB5
        have HTM := Lib.hid (times_any aN cN N x w6 HRN6.out (by have := HNL.out; omega) (by have := HNL.out; omega))
        go_wp2_with fail
        (with_reducible refine HTM.out.mono ?_)
        rintro e w7 ⟨⟨g7, n7, N', rfl, ho7, hn7, hl7, hel7⟩, hb7⟩
        have hg7 := ho7.fresh (by omega)
        obtain ⟨g7', e7, hg7a, _⟩ := hg7
        cases e7
        have hgg : g < w6.heap.size := by
          rcases HO6.out.parts with ⟨e, _⟩ | ⟨g', c', e, _, h, _⟩
          · cases e
          · cases e; exact h
        have hnul := nul_step (N := N) (N' := N') HNU.out (by omega) (by rw [HX.out]; exact hel7)
        have hst : ThruRel w g n xs ys (.slice (some ⟨g7, 0, none⟩) n7 n7) (.int .i64 ((i : Int) + 1)) w7 :=
          ⟨i + 1, N', C', some ⟨g7, 0, none⟩, n7, by go_num, hlt, by rw [hl7], (show Own w7 w6.heap.size (.slice (some ⟨g7, 0, none⟩) N'.length n7) N' by rw [hl7]; exact ho7).rowAt, fun b o e => by cases e; omega, hnul, HO6.out.below hb7, HC6.out, HTH6.out, fun s' t' hst' ht' => by
            by_cases e : t' = i
            · subst e
              intro he
              exact HS0.out (by rw [← HS.out, HNU.out.zero]; exact ⟨s', hst', he.trans HX.out⟩)
            · exact HDI.out s' t' hst' (by omega), HB6.out.trans (hb7.mono HB6.out.size)⟩
        have HST := Lib.hid hst
        clear hst hnul ho7 hn7 hl7 hel7 hb7
        go_wp2_with fail
        go_roundw
        case rel => exact HST.out
        case measure => simp [intOf]; omega
    · obtain rfl : i = n := by omega
      have hT := trim_res (PM.el C) HO.out (by rw [HCL.out]; exact hl) (fun _ => rfl)
      have HT := Lib.hid hT
      have hD : Dist xs := fun s t hst ht => HDI.out s t hst (by rw [HN.out] at ht; exact ht)
      have HDD := Lib.hid hD
      clear hT hD hAW hBW
      go_wp2_with fail
      (with_reducible refine HT.out.mono ?_)
      rintro e w6 ⟨⟨r, a6, c6, rfl, hr, hpol, hco, _⟩, hb6⟩
      have hlr : r.length ≤ xs.length := by rw [HN.out]; exact PM.can_len hpol.can (fun k hk => by rw [hco]; exact PM.el_ge (by rw [HCL.out]; exact hk))
      have hthr : Thr xs ys r xs.length := by
        rw [HN.out]
        exact ⟨fun t ht => by rw [PM.ev_can hco]; exact HTH.out.at' t ht, fun j hj => by rw [hco]; exact HTH.out.van j hj⟩
      have HFIN := Lib.hid (And.intro hr (And.intro hpol.can (And.intro hlr hthr)))
      have HB6 := Lib.hid (HBW.out.trans (hb6.mono HBW.out.size))
      clear hr hpol hco hb6 hlr hthr
      go_wp2_with fail
      exact bodyPost_ret (v := .tuple #[.slice a6 r.length c6, .int .i64 0]) (by simp [results, Try.results16, go_sem]) rfl ⟨.inr ⟨HDD.out, r, a6, c6, rfl, HFIN.out.1, HFIN.out.2.1, HFIN.out.2.2.1, HFIN.out.2.2.2⟩, HB6.out⟩
end Go.Proofs.Ytfbogjibofeckaa.P
