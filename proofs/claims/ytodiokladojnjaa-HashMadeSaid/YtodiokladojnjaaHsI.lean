/- hash.Inverse, Join; ref10.Inverse, Join. -/
import Derived.Test.YtodiokladojnjaaHsC
import Derived.Test.YtodiokladojnjaaBRef10
import Derived.Test.YtodiokladojnjaaBAgree
namespace Go.Proofs.Ytodiokladojnjaa.B
open Go Go.RowKit Go.Shelf

/-- A slice of masks in memory. -/
def SlR (W : World) (v : Value) (L : List V) : Prop := ∃ a c, v = .slice a L.length c ∧ Row W a L c
theorem SlR.nil (W : World) : SlR W (.slice none 0 0) [] := ⟨none, 0, rfl, Row.nil _ _ _ (by omega)⟩
theorem SlR.below {W W' : World} {v : Value} {L : List V} (h : SlR W v L) (hb : Below W.heap.size W W') : SlR W' v L := by
  obtain ⟨a, c, e, h⟩ := h; exact ⟨a, c, e, h.below hb⟩
/-- Masks that are one to one, and at least one. -/
structure Gd (R : List V) : Prop where
  mv : MV R.length R
  rk : rankN R.length R = R.length
theorem Gd.of {R : List V} (h : chkE R = 0) (h0 : R.length ≠ 0) : Gd R := by
  unfold chkE at h
  split at h
  · cases h
  · split at h
    · rename_i hv
      obtain ⟨D, hD, hM⟩ := MV.of hv
      obtain rfl : D = R.length := by omega
      refine ⟨hM, ?_⟩
      split at h
      · cases h
      · have h1 : rankN R.length R ≤ R.length := by
          rw [rankN_is hM]; exact run_len _ _ (Nat.zero_le _) _
        omega
    · cases h
theorem Gd.inv {R : List V} (h : Gd R) : invE R.length R = 0 := ((inv_facts h.mv rfl).1).2 h.rk
theorem Gd.chk {R : List V} (h : Gd R) : chkE R = 0 := by
  have h1 := h.mv.r1
  have h2 := h.mv.r2
  unfold chkE
  rw [if_neg (by omega), if_neg (by omega), if_pos h.mv.yes, if_neg (by have := h.rk; omega)]
def hinvR (R : List V) : List V := if chkE R = 0 ∧ R.length ≠ 0 then invR R.length R else []
def joinE (A T : List V) : Int := if chkE A = 0 then (if chkE T = 0 then (if A.length = T.length then 0 else 7) else chkE T) else chkE A
def joinR (A T : List V) : List V := if joinE A T = 0 ∧ A.length ≠ 0 then mulR T.length A.length T A else []
theorem tup_sl {a b c d : Value} (h1 : a = c) (h2 : b = d) : Ending.returned (.tuple #[a, b]) = .returned (.tuple #[c, d]) := by rw [h1, h2]

set_option maxRecDepth 100000 in
set_option maxHeartbeats 1000000 in
theorem hinverse_any (a : Option Addr) (cap : Nat) (R : List V) (w : World) (hR : Row w a R cap) :
    Calls Try.prog 9 #[.slice a R.length cap] w fun e W => (∃ v, e = .returned (.tuple #[v, .int .i64 (chkE R)]) ∧ SlR W v (hinvR R)) ∧ Below w.heap.size w W := by
  have HCK := Lib.hid (check_any a cap R w hR)
  have HR := Lib.hid hR
  have hroom := hR.room
  have hmost := hR.most
  clear hR
  obtain ⟨c, hc⟩ : ∃ c, chkE R = c := ⟨_, rfl⟩
  rw [hc] at HCK ⊢
  by_cases h0 : c = 0
  · by_cases h1 : R.length = 0
    · have hL : hinvR R = [] := by unfold hinvR; rw [if_neg (fun h => h.2 h1)]
      rw [hL, h0]
      rw [h1] at HCK ⊢
      rw [h0] at HCK
      clear hc h0 hL hroom h1
      go_enter Try.func9, Try.ntmps9
      go_wp2_with fail
      refine HCK.out.mono ?_
      rintro e w1 ⟨rfl, hb1⟩
      have HB1 := Lib.hid hb1
      clear hb1
      go_wp2_with fail
      exact bodyPost_ret (v := .tuple #[.slice none 0 0, .int .i64 0]) (by simp [results, Try.results9, go_sem]) rfl ⟨⟨_, rfl, SlR.nil _⟩, HB1.out⟩
    · have hG := Gd.of (hc.trans h0) h1
      have hL : hinvR R = invR R.length R := by unfold hinvR; rw [if_pos ⟨hc.trans h0, h1⟩]
      have he := hG.inv
      rw [hL, h0]
      rw [h0] at HCK
      have h1i : ((R.length : Int) == 0) = false := beq_eq_false_iff_ne.2 (by omega)
      obtain ⟨I, hI⟩ : ∃ I, invR R.length R = I := ⟨_, rfl⟩
      have HI := Lib.hid (fun W h => inverse_any R.length a cap R W h)
      have HE := Lib.hid he
      have HIR := Lib.hid hI
      rw [hI]
      clear hc h0 hL h1 hG he hI
      have HS := Lib.hid (square_any a R.length cap)
      go_enter Try.func9, Try.ntmps9
      go_wp2_with fail
      refine HCK.out.mono ?_
      rintro e w1 ⟨rfl, hb1⟩
      have HB1 := Lib.hid hb1
      have HR1 := Lib.hid (HR.out.below hb1)
      clear hb1
      go_wp2_with fail
      refine (HS.out w1).mono ?_
      rintro e w2 ⟨rfl, hb2⟩
      have HB2 := Lib.hid (HB1.out.trans (hb2.mono HB1.out.size))
      have HR2 := Lib.hid (HR1.out.below hb2)
      have HI2 := Lib.hid (HI.out w2 HR2.out)
      clear hb2
      rw [HE.out, HIR.out] at HI2
      go_wp2_with fail
      refine HI2.out.mono ?_
      rintro e w3 ⟨⟨v, rfl, a3, c3, rfl, hr3, _⟩, hb3⟩
      have HB3 := Lib.hid (HB2.out.trans (hb3.mono HB2.out.size))
      have HR3 := Lib.hid hr3
      clear hb3 hr3
      go_wp2_with fail
      exact bodyPost_ret (v := .tuple #[.slice a3 I.length c3, .int .i64 0]) (by simp [results, Try.results9, go_sem]) rfl ⟨⟨_, rfl, ⟨a3, c3, rfl, HR3.out.alloc _⟩⟩, HB3.out.alloc HB3.out.size _⟩
  · have hL : hinvR R = [] := by unfold hinvR; rw [if_neg (fun h => h0 (hc.symm.trans h.1))]
    have hni : (c != 0) = true := bne_iff_ne.2 h0
    rw [hL]
    clear hc hL
    go_enter Try.func9, Try.ntmps9
    go_wp2_with fail
    refine HCK.out.mono ?_
    rintro e w1 ⟨rfl, hb1⟩
    have HB1 := Lib.hid hb1
    clear hb1
    go_wp2_with fail
    exact bodyPost_ret (v := .tuple #[.slice none 0 0, .int .i64 c]) (by simp [results, Try.results9, go_sem]) rfl ⟨⟨_, rfl, SlR.nil _⟩, HB1.out⟩

set_option maxRecDepth 100000 in
set_option maxHeartbeats 1000000 in
theorem rhinverse_any (a : Option Addr) (cap : Nat) (R : List V) (w : World) (hR : Row w a R cap) :
    Calls Try.prog 10 #[.slice a R.length cap] w fun e W => (∃ v, e = .returned (.tuple #[v, .int .i64 (chkE R)]) ∧ SlR W v (hinvR R)) ∧ Below w.heap.size w W := by
  have HCK := Lib.hid (rcheck_any a cap R w hR)
  have HR := Lib.hid hR
  have hroom := hR.room
  have hmost := hR.most
  clear hR
  obtain ⟨c, hc⟩ : ∃ c, chkE R = c := ⟨_, rfl⟩
  rw [hc] at HCK ⊢
  by_cases h0 : c = 0
  · by_cases h1 : R.length = 0
    · have hL : hinvR R = [] := by unfold hinvR; rw [if_neg (fun h => h.2 h1)]
      rw [hL, h0]
      rw [h1] at HCK ⊢
      rw [h0] at HCK
      clear hc h0 hL hroom h1
      go_enter Try.func10, Try.ntmps10
      go_wp2_with fail
      refine HCK.out.mono ?_
      rintro e w1 ⟨rfl, hb1⟩
      have HB1 := Lib.hid hb1
      clear hb1
      go_wp2_with fail
      exact bodyPost_ret (v := .tuple #[.slice none 0 0, .int .i64 0]) (by simp [results, Try.results10, go_sem]) rfl ⟨⟨_, rfl, SlR.nil _⟩, HB1.out⟩
    · have hG := Gd.of (hc.trans h0) h1
      have hL : hinvR R = invR R.length R := by unfold hinvR; rw [if_pos ⟨hc.trans h0, h1⟩]
      have he := hG.inv
      rw [hL, h0]
      rw [h0] at HCK
      have h1i : ((R.length : Int) == 0) = false := beq_eq_false_iff_ne.2 (by omega)
      obtain ⟨I, hI⟩ : ∃ I, invR R.length R = I := ⟨_, rfl⟩
      have HI := Lib.hid (fun W h => rinverse_any R.length a cap R W h)
      have HE := Lib.hid he
      have HIR := Lib.hid hI
      rw [hI]
      clear hc h0 hL h1 hG he hI
      go_enter Try.func10, Try.ntmps10
      go_wp2_with fail
      refine HCK.out.mono ?_
      rintro e w1 ⟨rfl, hb1⟩
      have HB1 := Lib.hid hb1
      have HR1 := Lib.hid (HR.out.below hb1)
      clear hb1
      have HI2 := Lib.hid (HI.out w1 HR1.out)
      have HB2 := Lib.hid HB1.out
      rw [HE.out, HIR.out] at HI2
      go_wp2_with fail
      refine HI2.out.mono ?_
      rintro e w3 ⟨⟨v, rfl, a3, c3, rfl, hr3, _⟩, hb3⟩
      have HB3 := Lib.hid (HB2.out.trans (hb3.mono HB2.out.size))
      have HR3 := Lib.hid hr3
      clear hb3 hr3
      go_wp2_with fail
      exact bodyPost_ret (v := .tuple #[.slice a3 I.length c3, .int .i64 0]) (by simp [results, Try.results10, go_sem]) rfl ⟨⟨_, rfl, ⟨a3, c3, rfl, HR3.out.alloc _⟩⟩, HB3.out.alloc HB3.out.size _⟩
  · have hL : hinvR R = [] := by unfold hinvR; rw [if_neg (fun h => h0 (hc.symm.trans h.1))]
    have hni : (c != 0) = true := bne_iff_ne.2 h0
    rw [hL]
    clear hc hL
    go_enter Try.func10, Try.ntmps10
    go_wp2_with fail
    refine HCK.out.mono ?_
    rintro e w1 ⟨rfl, hb1⟩
    have HB1 := Lib.hid hb1
    clear hb1
    go_wp2_with fail
    exact bodyPost_ret (v := .tuple #[.slice none 0 0, .int .i64 c]) (by simp [results, Try.results10, go_sem]) rfl ⟨⟨_, rfl, SlR.nil _⟩, HB1.out⟩

end Go.Proofs.Ytodiokladojnjaa.B
