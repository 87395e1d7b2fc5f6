/- The reference's Choose. -/
import Derived.Test.YtneimnacanhjmaaDoorBRefPow
import Derived.Test.YtneimnacanhjmaaDoorBNumBad
import Derived.Test.YtneimnacanhjmaaDoorB10
namespace Go.Proofs.YtneimnacanhjmaaDoor
open Go Go.RowKit Go.Shelf

structure RcSt (w : World) (p z : Nat) (o : Option Addr) (co : Nat) (W : World) : Prop where
  cR : W.cell? ⟨w.heap.size, 0, none⟩ = some (.slice none 0 0)
  fR : W.frozen? ⟨w.heap.size, 0, none⟩ = false
  cO : W.cell? ⟨p, 0, none⟩ = some (.slice o (M.dig z).length co)
  fO : W.frozen? ⟨p, 0, none⟩ = false
  rO : Row W o (M.dig z) co
  far : w.heap.size < p
  below : Below w.heap.size w W
section
variable {w : World} {p z : Nat} {o : Option Addr} {co : Nat} {W : World}
theorem RcSt.keep {W' : World} (h : RcSt w p z o co W) (hb : Below W.heap.size W W') : RcSt w p z o co W' :=
  ⟨cell_below hb h.cR, frozen_below hb h.cR h.fR, cell_below hb h.cO, frozen_below hb h.cO h.fO, h.rO.below hb, h.far, h.below.trans (hb.mono h.below.size)⟩
theorem RcSt.alloc (h : RcSt w p z o co W) (x : Obj) : RcSt w p z o co (W.alloc x) := h.keep ((Below.refl _ W).alloc (Nat.le_refl _) x)
theorem RcSt.set (h : RcSt w p z o co W) {z' : Nat} {o' : Option Addr} {co' : Nat} (hr : Row W o' (M.dig z') co') : RcSt w p z' o' co' (W.setCell ⟨p, 0, none⟩ (.slice o' (M.dig z').length co')) := by
  have hp := h.far
  exact ⟨(cell_other _ (show w.heap.size ≠ p by omega)).trans h.cR, (World.frozen?_setCell _ _ _ _).trans h.fR, World.cell?_setCell_same _ _ _ h.cO, (World.frozen?_setCell _ _ _ _).trans h.fO,
    hr.storedAt h.cO _, hp, h.below.setCell (p := ⟨p, 0, none⟩) (by show w.heap.size ≤ p; omega) _⟩
theorem RcSt.beside (h : RcSt w p z o co W) {q n c : Nat} {s : Option Addr} (hq : W.cell? ⟨q, 0, none⟩ = some (.slice s n c)) (hne : q ≠ p) (hlt : w.heap.size < q) (u : Value) : RcSt w p z o co (W.setCell ⟨q, 0, none⟩ u) :=
  ⟨(cell_other _ (show w.heap.size ≠ q by omega)).trans h.cR, (World.frozen?_setCell _ _ _ _).trans h.fR, (cell_other _ (show p ≠ q from fun e => hne e.symm)).trans h.cO, (World.frozen?_setCell _ _ _ _).trans h.fO,
    h.rO.storedAt hq _, h.far, h.below.setCell (p := ⟨q, 0, none⟩) (by show w.heap.size ≤ q; omega) _⟩
end

def cellLen (W : World) (p : Addr) : Nat := match W.cell? p with | some (.slice _ n _) => n | _ => 0
theorem cellLen_eq {W : World} {p : Addr} {s : Option Addr} {n c : Nat} (h : W.cell? p = some (.slice s n c)) : cellLen W p = n := by unfold cellLen; rw [h]

/-- What holds in the loop that takes the zeros off the product. -/
def RcIn (w : World) (p z : Nat) (o : Option Addr) (co q g : Nat) (zs : List Int) (pd : Nat) (sd : Option Addr) (cd j : Nat) (W : World) : Prop :=
  ∃ k, k ≤ zs.length ∧ (∀ i, k ≤ i → M.el zs i = 0) ∧ W.cell? ⟨q, 0, none⟩ = some (.slice (some ⟨g, 0, none⟩) k zs.length) ∧ W.frozen? ⟨q, 0, none⟩ = false ∧ Row W (some ⟨g, 0, none⟩) zs zs.length ∧ RcSt w p z o co W ∧ Var W pd sd cd j

theorem ch_turn {n kk j : Nat} (h1 : 1 ≤ j) : M.ch (n - kk + (j - 1)) (j - 1) * (n - kk + j) / j = M.ch (n - kk + j) j := by
  have h := M.ch_step (n - kk + (j - 1)) (j - 1)
  rw [show j - 1 + 1 = j by omega, show n - kk + (j - 1) + 1 = n - kk + j by omega] at h
  rw [Nat.mul_comm, ← h, Nat.mul_div_cancel_left _ (by omega)]

set_option maxRecDepth 100000 in
set_option maxHeartbeats 2000000 in
theorem rchoose_hi (n k0 : Nat) (w : World) (hn : n ≤ 4096) (hk0 : k0 ≤ n) (hle : n - k0 < k0) :
    Calls Tryd.prog 36 #[.int .i64 (n : Int), .int .i64 (k0 : Int)] w fun e W' => ∃ v, e = .returned (.tuple #[v, .int .i64 0]) ∧ Num W' v (M.ch n k0) ∧ Below w.heap.size w W' := by
  have HS := Lib.hid (show M.ch n (n - k0) = M.ch n k0 from M.ch_sym n k0 hk0)
  have HC := Lib.hid (cell_of_new w (.slice none 0 0) 24)
  have d1 : decide ((n : Int) < 0) = false := by simp
  have d2 : decide ((4096 : Int) < (n : Int)) = false := by simp; omega
  have d3 : decide ((k0 : Int) < 0) = false := by simp
  have d4 : decide (n < k0) = false := by simp; omega
  go_enter Tryd.func36, Tryd.ntmps36
  go_wp2_with fail
  refine (show Calls Tryd.prog 32 #[.int .i64 1] (w.alloc (.cells #[.slice none 0 0] 24)) _ from rof_any 1 _ (by omega)).mono ?_
  rintro e w6 ⟨v, rfl, ⟨o, co, rfl, ho⟩, hb6⟩
  have hst : RcSt w w6.heap.size 1 o co (w6.alloc (.cells #[.slice o (M.dig 1).length co] 24)) := by
    have hb7 := (Below.refl _ w6).alloc (Nat.le_refl _) (.cells #[.slice o (M.dig 1).length co] 24)
    have hb := hb6.trans (hb7.mono hb6.size)
    have hs := hb6.size
    rw [World.size_alloc] at hs
    exact ⟨cell_below hb HC.out.1, frozen_below hb HC.out.1 HC.out.2, cell_new _ _ _, frozen_new _ _ _, ho.alloc _, by omega, ((Below.refl _ w).alloc (Nat.le_refl _) _).trans (hb.mono (by simp))⟩
  have HST := Lib.hid hst
  clear hst ho hb6 HC
  go_wp2_with fail
  obtain ⟨kk, hkk⟩ : ∃ kk : Nat, kk = n - k0 := ⟨_, rfl⟩
  have HCH := Lib.hid (show M.ch n k0 = M.ch n kk from by rw [hkk]; exact HS.out.symm)
  have HKN := Lib.hid (show kk ≤ n by omega)
  have hki : (n : Int) - (k0 : Int) = (kk : Int) := by omega
  have hkn : kk ≤ n := by omega
  rw [hki]
  clear hki hkk d1 d2 d3 d4 HS
  go_loopw [8] (fun i wr => ∃ (j z : Nat) (o : Option Addr) (co : Nat), i = .int .i64 (j : Int) ∧ 1 ≤ j ∧ j ≤ kk + 1 ∧ z = M.ch (n - kk + (j - 1)) (j - 1) ∧ RcSt w w6.heap.size z o co wr) (fun i _ => kk + 1 - (intOf i).toNat)
  case atStart => exact ⟨1, 1, o, co, rfl, Nat.le_refl _, by omega, (M.ch_zero _).symm, HST.out⟩
  case round =>
    clear HST
    obtain ⟨j, z, o, co, rfl, hj1, hj, hz, hst⟩ := hrel
    have HST := Lib.hid hst
    have HZ := Lib.hid hz
    have hzl : (M.dig z).length ≤ 175 := by rw [hz]; exact ch_dig_len (n := n - kk + (j - 1)) (by omega) _
    clear hst hz
    by_cases hlt : j ≤ kk
    · have hNl : (M.dig (n - kk + j)).length ≤ 3 := M.dig_len_le.2 (Nat.lt_of_le_of_lt (show n - kk + j ≤ 4096 by omega) (by decide))
      have hjl : (M.dig j).length ≤ 3 := M.dig_len_le.2 (Nat.lt_of_le_of_lt (show j ≤ 4096 by omega) (by decide))
      have hpl := M.dig_len_mul hzl hNl
      have h1 := fun W : World => rof_any (n - kk + j) W (by omega)
      rw [show ((n - kk + j : Nat) : Int) = (n : Int) - (kk : Int) + (j : Int) from by omega] at h1
      have H1 := Lib.hid h1
      clear h1
      go_wp2_with fail
      refine (H1.out _).mono ?_
      rintro e w2 ⟨v, rfl, ⟨sf, cf, rfl, hf⟩, hb2⟩
      replace HST := Lib.hid ((HST.out.keep hb2).alloc (.cells #[.slice sf (M.dig (n - kk + j)).length cf] 24))
      have VF := Lib.hid (Var.new hf)
      clear hf hb2 H1
      go_wp2_with fail
      refine (rof_any j _ (by omega)).mono ?_
      rintro e w3 ⟨v, rfl, ⟨sd, cd, rfl, hd⟩, hb3⟩
      replace HST := Lib.hid ((HST.out.keep hb3).alloc (.cells #[.slice sd (M.dig j).length cd] 24))
      replace VF := Lib.hid ((VF.out.below hb3).alloc (.cells #[.slice sd (M.dig j).length cd] 24))
      have VD := Lib.hid (Var.new hd)
      clear hd hb3
      have c2 := HST.out.cO
      have e2 := VF.out.cell
      go_wp2_with fail
      refine (rmul_any o sf co cf z (n - kk + j) _ (by omega) (by omega) HST.out.rO VF.out.row).mono ?_
      rintro e w4 ⟨g, zs, rfl, hrz, htr, hb4⟩
      have HO := Lib.hid (show w.heap.size < w4.heap.size ∧ w6.heap.size < w4.heap.size ∧ w3.heap.size < w4.heap.size from by
        have h1 := lt_of_cell HST.out.cO
        have h2 := HST.out.far
        have h3 := lt_of_cell VD.out.cell
        have h4 := hb4.size
        simp only at h1 h3
        omega)
      replace HST := Lib.hid ((HST.out.keep hb4).alloc (.cells #[.slice (some ⟨g, 0, none⟩) zs.length zs.length] 24))
      replace VD := Lib.hid ((VD.out.below hb4).alloc (.cells #[.slice (some ⟨g, 0, none⟩) zs.length zs.length] 24))
      have HC := Lib.hid (cell_of_new w4 (.slice (some ⟨g, 0, none⟩) zs.length zs.length) 24)
      have HRZ := Lib.hid (hrz.alloc (.cells #[.slice (some ⟨g, 0, none⟩) zs.length zs.length] 24))
      have HT := Lib.hid htr
      have hroom := hrz.room
      have hmost := hrz.most
      clear hrz htr hb4 c2 e2 VF
      go_wp2_with fail
      go_loopw [64] (fun _ wr => RcIn w w6.heap.size z o co w4.heap.size g zs w3.heap.size sd cd j wr) (fun _ wr => cellLen wr ⟨w4.heap.size, 0, none⟩)
      case atStart => exact ⟨zs.length, Nat.le_refl _, fun i hi => M.el_ge hi, HC.out.1, HC.out.2, HRZ.out, HST.out, VD.out⟩
      case round =>
        clear HST VD HC HRZ
        obtain ⟨k, hk, hzk, cq, fq, hrz, hst, vd⟩ := hrel
        have HST := Lib.hid hst
        have VD := Lib.hid vd
        have HZK := Lib.hid hzk
        have HRZ := Lib.hid hrz
        clear hst vd hzk hrz
        by_cases hgo : 0 < k ∧ M.el zs (k - 1) = 0
        · obtain ⟨h0, he⟩ := hgo
          have hc := HRZ.out.cell (k - 1) (by omega)
          have e1 : ((k : Int) - 1).toNat = k - 1 := by omega
          rw [he, Nat.zero_add] at hc
          have HE := Lib.hid he
          have HQ := Lib.hid (HST.out.beside cq (by have := HO.out; omega) HO.out.1 (.slice (some ⟨g, 0, none⟩) (k - 1) zs.length))
          have HV := Lib.hid (VD.out.beside cq (by have := HO.out; omega) (.slice (some ⟨g, 0, none⟩) (k - 1) zs.length))
          have HC2 := Lib.hid (World.cell?_setCell_same wr ⟨w4.heap.size, 0, none⟩ (.slice (some ⟨g, 0, none⟩) (k - 1) zs.length) cq)
          have HC3 := Lib.hid (cellLen_eq cq)
          have HF2 := Lib.hid (show (wr.setCell ⟨w4.heap.size, 0, none⟩ (.slice (some ⟨g, 0, none⟩) (k - 1) zs.length)).frozen? ⟨w4.heap.size, 0, none⟩ = false from (World.frozen?_setCell _ _ _ _).trans fq)
          have HR2 := Lib.hid (HRZ.out.storedAt cq (.slice (some ⟨g, 0, none⟩) (k - 1) zs.length))
          clear he
          go_wp2_with fail
          go_roundw
          case rel => exact ⟨k - 1, by omega, fun i hi => by
            rcases Nat.lt_or_ge i k with h | h
            · rw [show i = k - 1 by omega]; exact HE.out
            · exact HZK.out i h, HC2.out, HF2.out, HR2.out, HQ.out, HV.out⟩
          case measure => rw [cellLen_eq HC2.out, HC3.out]; omega
        · have hst : (M.trimL zs).length = k := trimL_stop hk HZK.out (by
            rcases Nat.eq_zero_or_pos k with h | h
            · exact .inl h
            · exact .inr (fun e => hgo ⟨h, e⟩))
          have htk : zs.take k = M.dig (z * (n - kk + j)) := by rw [← HT.out, ← hst, M.trimL_take]
          have hdl : (M.dig (z * (n - kk + j))).length = k := by rw [← HT.out]; exact hst
          have hrt := HRZ.out.take k
          rw [htk] at hrt
          have HRT := Lib.hid hrt
          have hfin : ∀ (P : Prop), (0 < k → ((M.el zs (k - 1) == 0) = false) → P) → (k = 0 → P) → P := fun P h1 h2 => by
            rcases Nat.eq_zero_or_pos k with h | h
            · exact h2 h
            · exact h1 h (by rw [beq_eq_false_iff_ne]; exact fun e => hgo ⟨h, e⟩)
          have HDL := Lib.hid hdl
          have e2 := VD.out.cell
          clear hst htk hgo hrt hdl
          refine hfin _ ?_ ?_
          · intro h0 hne
            have hc := HRZ.out.cell (k - 1) (by omega)
            have e1 : ((k : Int) - 1).toNat = k - 1 := by omega
            rw [Nat.zero_add] at hc
            obtain ⟨y, hy⟩ : ∃ y, M.el zs (k - 1) = y := ⟨_, rfl⟩
            rw [hy] at hc hne
            clear hfin hy HZK
            go_wp2_with fail
            have hcall := rdiv_pos (some ⟨g, 0, none⟩) sd zs.length cd (z * (n - kk + j)) j wr (by omega) (by omega) (by omega) HRT.out VD.out.row
            rw [HDL.out] at hcall
            have HCL := Lib.hid hcall
            clear hcall hc hne h0 e1
            refine HCL.out.mono ?_
            rintro e w8 ⟨⟨a1, c1, a2, c2', rfl, hr1, _, _, _⟩, hb8⟩
            have HS8 := Lib.hid (HST.out.keep hb8)
            have HS9 := Lib.hid (HS8.out.set hr1)
            have c2 := HS8.out.cO
            have f2 := HS8.out.fO
            clear hr1 hb8 HCL HST VD HRT HDL HRZ HT HO e2 cq fq
            go_wp2_with fail
            go_roundw
            case rel => exact ⟨j + 1, _, a1, c1, by go_num, by omega, by omega, by rw [HZ.out, ch_turn hj1, Nat.add_sub_cancel], HS9.out⟩
            case measure => simp [intOf]; omega
          · intro h0
            have hd : decide ((0 : Int) < (k : Int)) = false := by simp; omega
            have hnn : ¬ 0 < k := by omega
            clear hfin HZK h0
            go_wp2_with fail
            have hcall := rdiv_pos (some ⟨g, 0, none⟩) sd zs.length cd (z * (n - kk + j)) j wr (by omega) (by omega) (by omega) HRT.out VD.out.row
            rw [HDL.out] at hcall
            have HCL := Lib.hid hcall
            clear hcall hd hnn
            refine HCL.out.mono ?_
            rintro e w8 ⟨⟨a1, c1, a2, c2', rfl, hr1, _, _, _⟩, hb8⟩
            have HS8 := Lib.hid (HST.out.keep hb8)
            have HS9 := Lib.hid (HS8.out.set hr1)
            have c2 := HS8.out.cO
            have f2 := HS8.out.fO
            clear hr1 hb8 HCL HST VD HRT HDL HRZ HT HO e2 cq fq
            go_wp2_with fail
            go_roundw
            case rel => exact ⟨j + 1, _, a1, c1, by go_num, by omega, by omega, by rw [HZ.out, ch_turn hj1, Nat.add_sub_cancel], HS9.out⟩
            case measure => simp [intOf]; omega
    · obtain rfl : j = kk + 1 := by omega
      have c1 := HST.out.cR
      have f1 := HST.out.fR
      have c2 := HST.out.cO
      go_wp2_with fail
      refine bodyPost_ret (v := .tuple #[.agg #[.slice o (M.dig z).length co], .int .i64 0]) (by simp [results, Tryd.results36, go_sem, c1]) rfl ⟨_, rfl, ⟨o, co, ?_, ?_⟩, HST.out.below.setCell (p := ⟨w.heap.size, 0, none⟩) (Nat.le_refl _) _⟩
      · rw [HCH.out, HZ.out, Nat.add_sub_cancel, Nat.sub_add_cancel HKN.out]
      · have hr := HST.out.rO.storedAt c1 (.slice o (M.dig z).length co)
        have e : M.ch n k0 = z := by rw [HCH.out, HZ.out, Nat.add_sub_cancel, Nat.sub_add_cancel HKN.out]
        rw [e]
        exact hr

set_option maxRecDepth 100000 in
set_option maxHeartbeats 2000000 in
theorem rchoose_lo (n k0 : Nat) (w : World) (hn : n ≤ 4096) (hk0 : k0 ≤ n) (hle : k0 ≤ n - k0) :
    Calls Tryd.prog 36 #[.int .i64 (n : Int), .int .i64 (k0 : Int)] w fun e W' => ∃ v, e = .returned (.tuple #[v, .int .i64 0]) ∧ Num W' v (M.ch n k0) ∧ Below w.heap.size w W' := by
  have HC := Lib.hid (cell_of_new w (.slice none 0 0) 24)
  have d1 : decide ((n : Int) < 0) = false := by simp
  have d2 : decide ((4096 : Int) < (n : Int)) = false := by simp; omega
  have d3 : decide ((k0 : Int) < 0) = false := by simp
  have d4 : decide (n < k0) = false := by simp; omega
  go_enter Tryd.func36, Tryd.ntmps36
  go_wp2_with fail
  refine (show Calls Tryd.prog 32 #[.int .i64 1] (w.alloc (.cells #[.slice none 0 0] 24)) _ from rof_any 1 _ (by omega)).mono ?_
  rintro e w6 ⟨v, rfl, ⟨o, co, rfl, ho⟩, hb6⟩
  have hst : RcSt w w6.heap.size 1 o co (w6.alloc (.cells #[.slice o (M.dig 1).length co] 24)) := by
    have hb7 := (Below.refl _ w6).alloc (Nat.le_refl _) (.cells #[.slice o (M.dig 1).length co] 24)
    have hb := hb6.trans (hb7.mono hb6.size)
    have hs := hb6.size
    rw [World.size_alloc] at hs
    exact ⟨cell_below hb HC.out.1, frozen_below hb HC.out.1 HC.out.2, cell_new _ _ _, frozen_new _ _ _, ho.alloc _, by omega, ((Below.refl _ w).alloc (Nat.le_refl _) _).trans (hb.mono (by simp))⟩
  have HST := Lib.hid hst
  clear hst ho hb6 HC
  go_wp2_with fail
  obtain ⟨kk, hkk⟩ : ∃ kk : Nat, kk = k0 := ⟨_, rfl⟩
  have HCH := Lib.hid (show M.ch n k0 = M.ch n kk from by rw [hkk])
  have HKN := Lib.hid (show kk ≤ n by omega)
  have hki : (k0 : Int) = (kk : Int) := by omega
  have hkn : kk ≤ n := by omega
  rw [hki]
  clear hki hkk d1 d2 d3 d4
  go_loopw [8] (fun i wr => ∃ (j z : Nat) (o : Option Addr) (co : Nat), i = .int .i64 (j : Int) ∧ 1 ≤ j ∧ j ≤ kk + 1 ∧ z = M.ch (n - kk + (j - 1)) (j - 1) ∧ RcSt w w6.heap.size z o co wr) (fun i _ => kk + 1 - (intOf i).toNat)
  case atStart => exact ⟨1, 1, o, co, rfl, Nat.le_refl _, by omega, (M.ch_zero _).symm, HST.out⟩
  case round =>
    clear HST
    obtain ⟨j, z, o, co, rfl, hj1, hj, hz, hst⟩ := hrel
    have HST := Lib.hid hst
    have HZ := Lib.hid hz
    have hzl : (M.dig z).length ≤ 175 := by rw [hz]; exact ch_dig_len (n := n - kk + (j - 1)) (by omega) _
    clear hst hz
    by_cases hlt : j ≤ kk
    · have hNl : (M.dig (n - kk + j)).length ≤ 3 := M.dig_len_le.2 (Nat.lt_of_le_of_lt (show n - kk + j ≤ 4096 by omega) (by decide))
      have hjl : (M.dig j).length ≤ 3 := M.dig_len_le.2 (Nat.lt_of_le_of_lt (show j ≤ 4096 by omega) (by decide))
      have hpl := M.dig_len_mul hzl hNl
      have h1 := fun W : World => rof_any (n - kk + j) W (by omega)
      rw [show ((n - kk + j : Nat) : Int) = (n : Int) - (kk : Int) + (j : Int) from by omega] at h1
      have H1 := Lib.hid h1
      clear h1
      go_wp2_with fail
      refine (H1.out _).mono ?_
      rintro e w2 ⟨v, rfl, ⟨sf, cf, rfl, hf⟩, hb2⟩
      replace HST := Lib.hid ((HST.out.keep hb2).alloc (.cells #[.slice sf (M.dig (n - kk + j)).length cf] 24))
      have VF := Lib.hid (Var.new hf)
      clear hf hb2 H1
      go_wp2_with fail
      refine (rof_any j _ (by omega)).mono ?_
      rintro e w3 ⟨v, rfl, ⟨sd, cd, rfl, hd⟩, hb3⟩
      replace HST := Lib.hid ((HST.out.keep hb3).alloc (.cells #[.slice sd (M.dig j).length cd] 24))
      replace VF := Lib.hid ((VF.out.below hb3).alloc (.cells #[.slice sd (M.dig j).length cd] 24))
      have VD := Lib.hid (Var.new hd)
      clear hd hb3
      have c2 := HST.out.cO
      have e2 := VF.out.cell
      go_wp2_with fail
      refine (rmul_any o sf co cf z (n - kk + j) _ (by omega) (by omega) HST.out.rO VF.out.row).mono ?_
      rintro e w4 ⟨g, zs, rfl, hrz, htr, hb4⟩
      have HO := Lib.hid (show w.heap.size < w4.heap.size ∧ w6.heap.size < w4.heap.size ∧ w3.heap.size < w4.heap.size from by
        have h1 := lt_of_cell HST.out.cO
        have h2 := HST.out.far
        have h3 := lt_of_cell VD.out.cell
        have h4 := hb4.size
        simp only at h1 h3
        omega)
      replace HST := Lib.hid ((HST.out.keep hb4).alloc (.cells #[.slice (some ⟨g, 0, none⟩) zs.length zs.length] 24))
      replace VD := Lib.hid ((VD.out.below hb4).alloc (.cells #[.slice (some ⟨g, 0, none⟩) zs.length zs.length] 24))
      have HC := Lib.hid (cell_of_new w4 (.slice (some ⟨g, 0, none⟩) zs.length zs.length) 24)
      have HRZ := Lib.hid (hrz.alloc (.cells #[.slice (some ⟨g, 0, none⟩) zs.length zs.length] 24))
      have HT := Lib.hid htr
      have hroom := hrz.room
      have hmost := hrz.most
      clear hrz htr hb4 c2 e2 VF
      go_wp2_with fail
      go_loopw [64] (fun _ wr => RcIn w w6.heap.size z o co w4.heap.size g zs w3.heap.size sd cd j wr) (fun _ wr => cellLen wr ⟨w4.heap.size, 0, none⟩)
      case atStart => exact ⟨zs.length, Nat.le_refl _, fun i hi => M.el_ge hi, HC.out.1, HC.out.2, HRZ.out, HST.out, VD.out⟩
      case round =>
        clear HST VD HC HRZ
        obtain ⟨k, hk, hzk, cq, fq, hrz, hst, vd⟩ := hrel
        have HST := Lib.hid hst
        have VD := Lib.hid vd
        have HZK := Lib.hid hzk
        have HRZ := Lib.hid hrz
        clear hst vd hzk hrz
        by_cases hgo : 0 < k ∧ M.el zs (k - 1) = 0
        · obtain ⟨h0, he⟩ := hgo
          have hc := HRZ.out.cell (k - 1) (by omega)
          have e1 : ((k : Int) - 1).toNat = k - 1 := by omega
          rw [he, Nat.zero_add] at hc
          have HE := Lib.hid he
          have HQ := Lib.hid (HST.out.beside cq (by have := HO.out; omega) HO.out.1 (.slice (some ⟨g, 0, none⟩) (k - 1) zs.length))
          have HV := Lib.hid (VD.out.beside cq (by have := HO.out; omega) (.slice (some ⟨g, 0, none⟩) (k - 1) zs.length))
          have HC2 := Lib.hid (World.cell?_setCell_same wr ⟨w4.heap.size, 0, none⟩ (.slice (some ⟨g, 0, none⟩) (k - 1) zs.length) cq)
          have HC3 := Lib.hid (cellLen_eq cq)
          have HF2 := Lib.hid (show (wr.setCell ⟨w4.heap.size, 0, none⟩ (.slice (some ⟨g, 0, none⟩) (k - 1) zs.length)).frozen? ⟨w4.heap.size, 0, none⟩ = false from (World.frozen?_setCell _ _ _ _).trans fq)
          have HR2 := Lib.hid (HRZ.out.storedAt cq (.slice (some ⟨g, 0, none⟩) (k - 1) zs.length))
          clear he
          go_wp2_with fail
          go_roundw
          case rel => exact ⟨k - 1, by omega, fun i hi => by
            rcases Nat.lt_or_ge i k with h | h
            · rw [show i = k - 1 by omega]; exact HE.out
            · exact HZK.out i h, HC2.out, HF2.out, HR2.out, HQ.out, HV.out⟩
          case measure => rw [cellLen_eq HC2.out, HC3.out]; omega
        · have hst : (M.trimL zs).length = k := trimL_stop hk HZK.out (by
            rcases Nat.eq_zero_or_pos k with h | h
            · exact .inl h
            · exact .inr (fun e => hgo ⟨h, e⟩))
          have htk : zs.take k = M.dig (z * (n - kk + j)) := by rw [← HT.out, ← hst, M.trimL_take]
          have hdl : (M.dig (z * (n - kk + j))).length = k := by rw [← HT.out]; exact hst
          have hrt := HRZ.out.take k
          rw [htk] at hrt
          have HRT := Lib.hid hrt
          have hfin : ∀ (P : Prop), (0 < k → ((M.el zs (k - 1) == 0) = false) → P) → (k = 0 → P) → P := fun P h1 h2 => by
            rcases Nat.eq_zero_or_pos k with h | h
            · exact h2 h
            · exact h1 h (by rw [beq_eq_false_iff_ne]; exact fun e => hgo ⟨h, e⟩)
          have HDL := Lib.hid hdl
          have e2 := VD.out.cell
          clear hst htk hgo hrt hdl
          refine hfin _ ?_ ?_
          · intro h0 hne
            have hc := HRZ.out.cell (k - 1) (by omega)
            have e1 : ((k : Int) - 1).toNat = k - 1 := by omega
            rw [Nat.zero_add] at hc
            obtain ⟨y, hy⟩ : ∃ y, M.el zs (k - 1) = y := ⟨_, rfl⟩
            rw [hy] at hc hne
            clear hfin hy HZK
            go_wp2_with fail
            have hcall := rdiv_pos (some ⟨g, 0, none⟩) sd zs.length cd (z * (n - kk + j)) j wr (by omega) (by omega) (by omega) HRT.out VD.out.row
            rw [HDL.out] at hcall
            have HCL := Lib.hid hcall
            clear hcall hc hne h0 e1
            refine HCL.out.mono ?_
            rintro e w8 ⟨⟨a1, c1, a2, c2', rfl, hr1, _, _, _⟩, hb8⟩
            have HS8 := Lib.hid (HST.out.keep hb8)
            have HS9 := Lib.hid (HS8.out.set hr1)
            have c2 := HS8.out.cO
            have f2 := HS8.out.fO
            clear hr1 hb8 HCL HST VD HRT HDL HRZ HT HO e2 cq fq
            go_wp2_with fail
            go_roundw
            case rel => exact ⟨j + 1, _, a1, c1, by go_num, by omega, by omega, by rw [HZ.out, ch_turn hj1, Nat.add_sub_cancel], HS9.out⟩
            case measure => simp [intOf]; omega
          · intro h0
            have hd : decide ((0 : Int) < (k : Int)) = false := by simp; omega
            have hnn : ¬ 0 < k := by omega
            clear hfin HZK h0
            go_wp2_with fail
            have hcall := rdiv_pos (some ⟨g, 0, none⟩) sd zs.length cd (z * (n - kk + j)) j wr (by omega) (by omega) (by omega) HRT.out VD.out.row
            rw [HDL.out] at hcall
            have HCL := Lib.hid hcall
            clear hcall hd hnn
            refine HCL.out.mono ?_
            rintro e w8 ⟨⟨a1, c1, a2, c2', rfl, hr1, _, _, _⟩, hb8⟩
            have HS8 := Lib.hid (HST.out.keep hb8)
            have HS9 := Lib.hid (HS8.out.set hr1)
            have c2 := HS8.out.cO
            have f2 := HS8.out.fO
            clear hr1 hb8 HCL HST VD HRT HDL HRZ HT HO e2 cq fq
            go_wp2_with fail
            go_roundw
            case rel => exact ⟨j + 1, _, a1, c1, by go_num, by omega, by omega, by rw [HZ.out, ch_turn hj1, Nat.add_sub_cancel], HS9.out⟩
            case measure => simp [intOf]; omega
    · obtain rfl : j = kk + 1 := by omega
      have c1 := HST.out.cR
      have f1 := HST.out.fR
      have c2 := HST.out.cO
      go_wp2_with fail
      refine bodyPost_ret (v := .tuple #[.agg #[.slice o (M.dig z).length co], .int .i64 0]) (by simp [results, Tryd.results36, go_sem, c1]) rfl ⟨_, rfl, ⟨o, co, ?_, ?_⟩, HST.out.below.setCell (p := ⟨w.heap.size, 0, none⟩) (Nat.le_refl _) _⟩
      · rw [HCH.out, HZ.out, Nat.add_sub_cancel, Nat.sub_add_cancel HKN.out]
      · have hr := HST.out.rO.storedAt c1 (.slice o (M.dig z).length co)
        have e : M.ch n k0 = z := by rw [HCH.out, HZ.out, Nat.add_sub_cancel, Nat.sub_add_cancel HKN.out]
        rw [e]
        exact hr

end Go.Proofs.YtneimnacanhjmaaDoor
