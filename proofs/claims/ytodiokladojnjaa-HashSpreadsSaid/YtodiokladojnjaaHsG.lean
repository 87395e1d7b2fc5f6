/- One to one hashes: inverses, joins, each value once: mathematics. -/
import Derived.Test.YtodiokladojnjaaHsMk
import Derived.Test.YtodiokladojnjaaHsS
namespace Go.Proofs.Ytodiokladojnjaa.B
open Go Go.RowKit Go.Shelf

/-- R is a one to one hash of b masks. -/
structure Hs (b : Nat) (R : List V) : Prop where
  len : R.length = b
  most : b ≤ 64
  fit : ∀ j, j < b → fitB (el R j) b = true
  k0 : HS.K0 b (el R)
theorem fits_of {v : V} {b : Nat} (h : fitB v b = true) : HS.Fits b v := (fitB_iff _ _).1 h
theorem Hs.mv {b : Nat} {R : List V} (h : Hs b R) (h0 : 0 < b) : MV b R := ⟨h0, h.most, by rw [h.len]; exact h0, by rw [h.len]; exact h.most, fun j hj => h.fit j (by rw [← h.len]; exact hj)⟩
theorem Hs.chk {b : Nat} {R : List V} (h : Hs b R) : chkE R = 0 := by
  obtain ⟨rfl, h1, h2, h3⟩ := h
  exact chk_k0 h1 h2 h3
theorem Hs.gd {b : Nat} {R : List V} (h : Hs b R) (h0 : 0 < b) : Gd R := Gd.of h.chk (by rw [h.len]; omega)
theorem Hs.valFits {b : Nat} {R : List V} (h : Hs b R) (v : V) : HS.Fits b (valV R v) := by
  have := fits_of (valV_fit R v); rwa [h.len] at this
theorem Hs.bit {b : Nat} {R : List V} (h : Hs b R) (v : V) {j : Nat} (hj : j < b) : BM.bt (valV R v) j = BM.dot (el R j) v := by
  rw [valV_bt, h.len, decide_eq_true (show j < min b 64 by have := h.most; omega), Bool.true_and]
theorem Hs.inj {b : Nat} {R : List V} (h : Hs b R) {d e : V} (hd : HS.Fits b d) (he : HS.Fits b e) (hv : valV R d = valV R e) : d = e :=
  h.k0.inj hd he (fun j hj => by rw [← h.bit d hj, ← h.bit e hj, hv])
theorem fits_lt {b : Nat} {v : V} (h : HS.Fits b v) : v.toNat < 2 ^ b := fit_lt ((fitB_iff _ _).2 h)
theorem fits_nat {b n : Nat} (hb : b ≤ 64) (h : n < 2 ^ b) : HS.Fits b (BitVec.ofNat 64 n) := fun k hk => by
  by_cases hk2 : k < 64
  · unfold BM.bt
    rw [← BitVec.testBit_toNat, BitVec.toNat_ofNat, Nat.mod_eq_of_lt (Nat.lt_of_lt_of_le h (Nat.pow_le_pow_right (by decide) hb))]
    exact Nat.testBit_lt_two_pow (Nat.lt_of_lt_of_le h (Nat.pow_le_pow_right (by decide) hk))
  · exact BM.bt_ge _ (by omega)
theorem nat_back {b n : Nat} (hb : b ≤ 64) (h : n < 2 ^ b) : (BitVec.ofNat 64 n).toNat = n := by
  rw [BitVec.toNat_ofNat, Nat.mod_eq_of_lt (Nat.lt_of_lt_of_le h (Nat.pow_le_pow_right (by decide) hb))]
theorem cnt_some {f : Nat → Nat} {v m : Nat} (h : HS.cnt f v m = 1) : ∃ i, i < m ∧ f i = v := by
  by_cases hx : ∃ i, i < m ∧ f i = v
  · exact hx
  · exfalso
    rw [HS.cnt_none (fun i hi e => hx ⟨i, hi, e⟩)] at h
    cases h
theorem Hs.surj {b : Nat} {R : List V} (h : Hs b R) {a : V} (ha : HS.Fits b a) : ∃ v, HS.Fits b v ∧ valV R v = a := by
  have hc := HS.cnt_each (f := fun i => (valV R (BitVec.ofNat 64 i)).toNat) (n := 2 ^ b) (fun i _ => fits_lt (h.valFits _)) (fun i k hi hk e => by
    have h1 := h.inj (fits_nat h.most hi) (fits_nat h.most hk) (BitVec.eq_of_toNat_eq e)
    have h2 := congrArg BitVec.toNat h1
    rwa [nat_back h.most hi, nat_back h.most hk] at h2) a.toNat (fits_lt ha)
  obtain ⟨i, hi, e⟩ := cnt_some hc
  exact ⟨_, fits_nat h.most hi, BitVec.eq_of_toNat_eq e⟩
theorem fits0 {v : V} (h : HS.Fits 0 v) : v = 0 := BM.bt_ext (fun k _ => by rw [h k (Nat.zero_le _), BM.bt_zero])
theorem nil_of {R : List V} (h : R.length = 0) : R = [] := List.length_eq_zero_iff.1 h
theorem Hs.nil : Hs 0 [] := ⟨rfl, by decide, fun j hj => absurd hj (Nat.not_lt_zero j), fun _ hd _ => fits0 hd⟩
theorem valV_nil (v : V) : valV [] v = 0 := BM.bt_ext (fun k _ => by rw [valV_bt, decide_eq_false (by simp), Bool.false_and, BM.bt_zero])

/-- **An inverse undoes, from both sides.** -/
theorem hs_inv {b : Nat} {R : List V} (h : Hs b R) : ∃ I, hinvR R = I ∧ Hs b I ∧ ∀ a, HS.Fits b a → valV I (valV R a) = a ∧ valV R (valV I a) = a := by
  rcases Nat.eq_zero_or_pos b with rfl | h0
  · obtain rfl := nil_of h.len
    refine ⟨[], by unfold hinvR; rw [if_neg (fun g => g.2 rfl)], Hs.nil, fun a ha => ?_⟩
    obtain rfl := fits0 ha
    exact ⟨valV_nil _, valV_nil _⟩
  · have hM := h.mv h0
    have hG := h.gd h0
    obtain ⟨_, _, h3⟩ := inv_facts hM h.len
    have he : invE b R = 0 := by have := hG.inv; rwa [h.len] at this
    obtain ⟨_, I, hI, hIl, hMI, hA, _⟩ := h3 he
    have hval : ∀ v, valV I v = BM.app (el I) b v := fun v => by rw [valV_app (by rw [hIl]; exact h.most), hIl]
    have hvalR : ∀ v, valV R v = BM.app (el R) b v := fun v => by rw [valV_app (by rw [h.len]; exact h.most), h.len]
    have hleft : ∀ a, HS.Fits b a → valV I (valV R a) = a := fun a ha => by rw [hval, hvalR]; exact hA a ((fitB_iff _ _).2 ha)
    have hright : ∀ a, HS.Fits b a → valV R (valV I a) = a := fun a ha => by
      obtain ⟨v, hv, rfl⟩ := h.surj ha
      rw [hleft v hv]
    refine ⟨I, ?_, ⟨hIl, h.most, fun j hj => hMI.fit j (by rw [hIl]; exact hj), fun d hd hz => ?_⟩, fun a ha => ⟨hleft a ha, hright a ha⟩⟩
    · unfold hinvR; rw [if_pos ⟨h.chk, by rw [h.len]; omega⟩, h.len]; exact hI
    · have hzero : valV I d = 0 := BM.bt_ext (fun k hk => by
        rw [BM.bt_zero, valV_bt, hIl]
        by_cases hkb : k < b
        · rw [hz k hkb, Bool.and_false]
        · rw [decide_eq_false (by omega), Bool.false_and])
      rw [← hright d hd, hzero, valV_zero]
theorem hs_join {b : Nat} {A T : List V} (hA : Hs b A) (hT : Hs b T) : ∃ P, joinE A T = 0 ∧ joinR A T = P ∧ Hs b P ∧ ∀ v, valV P v = valV T (valV A v) := by
  have hE : joinE A T = 0 := by unfold joinE; rw [if_pos hA.chk, if_pos hT.chk, if_pos (by rw [hA.len, hT.len])]
  rcases Nat.eq_zero_or_pos b with rfl | h0
  · obtain rfl := nil_of hA.len
    obtain rfl := nil_of hT.len
    refine ⟨[], hE, by unfold joinR; rw [if_neg (fun g => g.2 rfl)], Hs.nil, fun a => ?_⟩
    rw [valV_nil, valV_nil]
  · have hMA := hA.mv h0
    have hMT := hT.mv h0
    have hJ : joinR A T = tab b (fun i => BM.comb (el A) (el T i) b) := by
      unfold joinR
      rw [if_pos ⟨hE, by rw [hA.len]; omega⟩, hT.len, hA.len, mulR_is hMT hMA hA.len.symm, hT.len, hA.len]
    have hbit : ∀ j, j < b → ∀ v, BM.dot (el (tab b (fun i => BM.comb (el A) (el T i) b)) j) v = BM.dot (el T j) (valV A v) := fun j hj v => by
      rw [el_tab _ _ _ hj, BM.dot_comb _ _ _ _ hA.most, valV_app (by rw [hA.len]; exact hA.most), hA.len]
    have hval : ∀ v, valV (tab b (fun i => BM.comb (el A) (el T i) b)) v = valV T (valV A v) := fun v => BM.bt_ext (fun k _ => by
      rw [valV_bt, valV_bt, tab_len, hT.len]
      by_cases hk : k < b
      · rw [hbit k hk]
      · rw [decide_eq_false (by omega), Bool.false_and, Bool.false_and])
    refine ⟨_, hE, hJ, ⟨tab_len _ _, hA.most, fun j hj => ?_, fun d hd hz => ?_⟩, hval⟩
    · rw [el_tab _ _ _ hj]
      have := comb_fit (el T j) hMA
      rwa [hA.len] at this
    · have h1 : valV A d = 0 := hT.k0 _ (hA.valFits d) (fun j hj => by rw [← hbit j hj]; exact hz j hj)
      refine hA.k0 d hd (fun j hj => ?_)
      rw [← hA.bit d hj, h1, BM.bt_zero]
theorem hs_same {b : Nat} {P Q : List V} (hP : Hs b P) (hQ : Hs b Q) (h : ∀ v, valV P v = valV Q v) : P = Q :=
  el_ext (hP.len.trans hQ.len.symm) (fun j hj => by
    rw [hP.len] at hj
    refine BM.bt_ext (fun k hk => ?_)
    rw [← dot_unit _ hk, ← dot_unit _ hk, ← hP.bit _ hj, ← hQ.bit _ hj, h])
theorem hs_masks {b : Nat} {ys : List V} (hl : ys.length = b) (hb : b ≤ 64) (hf : ∀ j, j < b → fitB (el ys j) b = true) (hk : HS.K0 b (el ys)) : Hs b ys := ⟨hl, hb, hf, hk⟩
end Go.Proofs.Ytodiokladojnjaa.B
