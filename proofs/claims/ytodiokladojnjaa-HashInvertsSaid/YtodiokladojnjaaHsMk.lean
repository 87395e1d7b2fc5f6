/- made.Dice.Masks: the masks are one to one. -/
import Derived.Test.YtodiokladojnjaaBMade
import Derived.Test.YtodiokladojnjaaHsI
namespace Go.Proofs.Ytodiokladojnjaa.B
open Go Go.RowKit Go.Shelf

/-- What Masks leaves. -/
def MaskPost (w : World) (dp : Nat) (a : Option Addr) (cap : Nat) (ts : List Int) (b : Nat) (e : Ending) (W : World) : Prop :=
  ∃ (ys : List V) (a' : Option Addr) (c' k' : Nat), e = .returned (.slice a' b c') ∧ ys.length = b ∧ (∀ j, j < b → fitB (el ys j) b = true) ∧ Own W w.heap.size (.slice a' b c') ys ∧ Dice W dp a cap ts k' ∧ w.grownBy W (some dp) ∧ HS.K0 b (el ys)
def MkRel (w : World) (dp : Nat) (a : Option Addr) (cap : Nat) (ts : List Int) (b n : Nat) (l : Value) (W : World) (P : List V → Prop) : Prop :=
  ∃ (ys : List V) (a' : Option Addr) (c' k' : Nat), l = .slice a' n c' ∧ ys.length = n ∧ (∀ j, j < n → fitB (el ys j) b = true) ∧ Own W w.heap.size (.slice a' n c') ys ∧ Dice W dp a cap ts k' ∧ w.grownBy W (some dp) ∧ P ys

theorem K0_congr {b : Nat} {F G : Nat → V} (h : HS.K0 b F) (e : ∀ j, j < b → G j = F j) : HS.K0 b G := fun d hf hd => h d hf (fun j hj => by rw [← e j hj]; exact hd j hj)
/-- Masks of which only 0 has nothing in common with all are of full rank. -/
theorem Gd.k0 {R : List V} (hM : MV R.length R) (h : HS.K0 R.length (el R)) : Gd R := by
  refine ⟨hM, ?_⟩
  have hc := ker_count hM
  rcases Nat.eq_zero_or_pos (kernL R.length R).length with h0 | h0
  · omega
  · exfalso
    obtain ⟨c, _, _, hk, hb, _⟩ := ker_at hM h0
    have := h _ hk.fit hk.zero
    rw [this, BM.bt_zero] at hb
    cases hb
theorem chk_k0 {R : List V} (hl : R.length ≤ 64) (hf : ∀ j, j < R.length → fitB (el R j) R.length = true) (h : HS.K0 R.length (el R)) : chkE R = 0 := by
  by_cases h0 : R.length = 0
  · unfold chkE; rw [if_neg (by omega), if_pos h0]
  · exact (Gd.k0 ⟨by omega, hl, by omega, hl, hf⟩ h).chk

set_option maxRecDepth 100000 in
set_option maxHeartbeats 1000000 in
theorem mask_any (w : World) (dp : Nat) (a : Option Addr) (cap : Nat) (ts : List Int) (k b : Nat) (hb : b ≤ 64) (hD : Dice w dp a cap ts k) :
    Calls Try.prog 24 #[.pointer (some ⟨dp, 0, none⟩), .int .i64 (b : Int)] w (MaskPost w dp a cap ts b) := by
  have hdp := hD.lt
  have HF := Lib.hid hD.far
  have HD := Lib.hid hD
  clear hD
  go_enter Try.func24, Try.ntmps24
  go_wp2_with fail
  go_loopw [5, 6] (fun l i wr => ∃ j : Nat, i = .int .i64 (j : Int) ∧ j ≤ b ∧ MkRel w dp a cap ts b j l wr (fun ys => ∀ q, q < j → el ys q = 1#64 <<< q)) (fun _ i _ => b - (intOf i).toNat)
  case atStart => exact ⟨0, rfl, Nat.zero_le _, [], none, 0, k, rfl, rfl, fun j hj => absurd hj (Nat.not_lt_zero j), Own.nil _ _, HD.out, World.grownBy.refl _ _, fun q hq => absurd hq (Nat.not_lt_zero q)⟩
  case round =>
    clear HD
    obtain ⟨j, rfl, hj, ys, a', c', k', rfl, h1, h2, h3, h4, h5, h6⟩ := hrel
    have H1 := Lib.hid h1
    have H2 := Lib.hid h2
    have H3 := Lib.hid h3
    have H4 := Lib.hid h4
    have H5 := Lib.hid h5
    have H6 := Lib.hid h6
    have hsz := h5.size
    clear h1 h2 h3 h4 h5 h6
    by_cases hlt : j < b
    · have hsh := shl_one j
      obtain ⟨y, hy⟩ : ∃ y, 1#64 <<< j = y := ⟨_, rfl⟩
      rw [hy] at hsh
      have HY := Lib.hid hy
      clear hy
      go_wp2_with (at_builtin; refine wpList_app1 (α := V) rfl _ _ rfl y (by rfl) (by have := H3.out.alloc (.cells #[.int .u64 (y.toNat : Int)] 32); rw [← H1.out] at this; rw [← H1.out]; exact this) rfl (cell_new _ _ _) (by have := H1.out; omega) (by simp; omega) ?_; intro a3 cap3 w6 hown3 hg3 hb3 hw3; have HO3 := Lib.hid hown3; have HB3 := Lib.hid hb3; clear hown3 hg3 hb3 hw3)
      go_roundw
      case rel =>
        have hn : ys.length = j := H1.out
        rw [hn] at HO3 ⊢
        have hbb : Below w.heap.size wr w6 := ((Below.refl _ wr).alloc hsz _).trans HB3.out
        refine ⟨j + 1, by go_num, hlt, ys ++ [y], a3, cap3, k', rfl, by rw [List.length_append, hn]; rfl, fun q hq => ?_, HO3.out, H4.out.belowAt hbb hdp HF.out, grown_then H5.out hbb, fun q hq => ?_⟩
        · rw [el_append, hn]
          by_cases h7 : q < j
          · rw [if_pos h7]; exact H2.out q h7
          · rw [if_neg h7, show q - j = 0 by omega]
            show fitB y b = true
            rw [← HY.out]
            exact fit_unit hlt
        · rw [el_append, hn]
          by_cases h7 : q < j
          · rw [if_pos h7]; exact H6.out q h7
          · obtain rfl : q = j := by omega
            rw [if_neg (Nat.lt_irrefl q), Nat.sub_self]
            exact HY.out.symm
      case measure => simp [intOf]; omega
    · obtain rfl : j = b := by omega
      have HNX := Lib.hid (next_any wr dp a cap ts k' (3 * j + 1) (by omega) (by omega) H4.out)
      have e3 : ((3 * j + 1 : Nat) : Int) = 3 * (j : Int) + 1 := by omega
      rw [e3] at HNX
      clear e3
      go_wp2_with fail
      refine HNX.out.mono ?_
      rintro e w2 ⟨rr, k2, hr2, rfl, hd2, hg2⟩
      have H3' := Lib.hid (H3.out.far hg2 hdp)
      have H4' := Lib.hid hd2
      have H5' := Lib.hid (grown_trans H5.out hg2)
      clear hd2 hg2
      go_wp2_with fail
      go_loopw [7, 8, 9] (fun m _ _ wq => ∃ t : Nat, m = .int .i64 (t : Int) ∧ t ≤ 3 * j + 1 ∧ MkRel w dp a cap ts j j (.slice a' j c') wq (fun ys => HS.K0 j (el ys))) (fun m _ _ _ => (intOf m).toNat)
      case atStart => exact ⟨rr, rfl, by omega, ys, a', c', k2, rfl, H1.out, H2.out, H3'.out, H4'.out, H5'.out, K0_congr (HS.K0.unit hb) (fun q hq => H6.out q hq)⟩
      case round =>
        clear H1 H2 H3 H4 H5 H3' H4' H5' hsz HNX H6
        obtain ⟨t, rfl, ht, ys, a4, c4, k4, he, h1, h2, h3, h4, h5, h6⟩ := hrel
        simp only [Value.slice.injEq] at he
        obtain ⟨rfl, _, rfl⟩ := he
        have H1 := Lib.hid h1
        have H2 := Lib.hid h2
        have H3 := Lib.hid h3
        have H4 := Lib.hid h4
        have H5 := Lib.hid h5
        have H6 := Lib.hid h6
        have hsz := h5.size
        clear h6
        by_cases hgo : 0 < t ∧ 1 < j
        · obtain ⟨ht0, hj1⟩ := hgo
          have hwd : wrap64 ((t : Int) - 1) = (t : Int) - 1 := by unfold wrap64; omega
          have HNX := Lib.hid (next_any wr dp a cap ts k4 j (by omega) (by omega) H4.out)
          clear h1 h2 h3 h4 h5
          go_wp2_with fail
          refine HNX.out.mono ?_
          rintro e w3 ⟨i1, k5, hi1, rfl, hd3, hg3⟩
          have HNY := Lib.hid (next_any w3 dp a cap ts k5 (j - 1) (by omega) (by omega) hd3)
          have H3' := Lib.hid (H3.out.far hg3 hdp)
          have H5' := Lib.hid (grown_trans H5.out hg3)
          have e4 : ((j - 1 : Nat) : Int) = (j : Int) - 1 := by omega
          rw [e4] at HNY
          clear hd3 hg3 e4 HNX
          go_wp2_with fail
          refine HNY.out.mono ?_
          rintro e w4 ⟨i2, k6, hi2, rfl, hd4, hg4⟩
          have H3'' := Lib.hid (H3'.out.far hg4 hdp)
          have H5'' := Lib.hid (grown_trans H5'.out hg4)
          have H4'' := Lib.hid hd4
          clear hd4 hg4 HNY H3' H5'
          obtain ⟨i3, hi3⟩ : ∃ i3 : Nat, i3 = (i1 + 1 + i2) % j := ⟨_, rfl⟩
          have hi3l : i3 < j := by rw [hi3]; exact Nat.mod_lt _ (by omega)
          have hrem : ((i1 : Int) + 1 + (i2 : Int)).tmod (j : Int) = (i3 : Int) := by
            rw [Int.tmod_eq_emod_of_nonneg (by omega), hi3, Int.natCast_emod, Int.natCast_add, Int.natCast_add]; rfl
          have hne : i1 ≠ i3 := by
            rw [hi3]
            rcases Nat.lt_or_ge (i1 + 1 + i2) j with hh | hh
            · rw [Nat.mod_eq_of_lt hh]; omega
            · rw [Nat.mod_eq_sub_mod hh, Nat.mod_eq_of_lt (by omega)]; omega
          have HI3 := Lib.hid hi3
          have HNE := Lib.hid hne
          clear hi3 hne
          obtain ⟨g, rfl, hg1, hg2⟩ := H3''.out.fresh (by rw [H1.out]; omega)
          have q1 := H3''.out.cellV i1 (by rw [H1.out]; exact hi1)
          have q2 := H3''.out.free i1 (by rw [H1.out]; exact hi1)
          have q3 := H3''.out.cellV i3 (by rw [H1.out]; exact hi3l)
          have hrm := H3''.out.room
          have hx := xor_V (el ys i1) (el ys i3)
          obtain ⟨y, hy⟩ : ∃ y, el ys i1 ^^^ el ys i3 = y := ⟨_, rfl⟩
          rw [hy] at hx
          have HY := Lib.hid hy
          clear hy
          go_wp2_with fail
          go_region
          go_wp2_with fail
          go_roundw
          case rel =>
            refine ⟨t - 1, congrArg (Value.int .i64) (by omega), by omega, ys.set i1 y, some ⟨g, 0, none⟩, c', k6, rfl, by rw [List.length_set, H1.out], fun q hq => ?_, ?_, ?_, ?_, ?_⟩
            · rw [el_set (by rw [H1.out]; exact hi1)]
              split
              · rw [← HY.out]; exact fit_xor (H2.out _ hi1) (H2.out _ hi3l)
              · exact H2.out q hq
            · exact (H3''.out.setV i1 y).drewN 1
            · have hbb : Below w.heap.size w4 (w4.setCell ⟨g, i1, none⟩ (.int .u64 (y.toNat : Int))) := (Below.refl _ w4).setCell (p := ⟨g, i1, none⟩) hg1 _
              exact (H4''.out.belowAt hbb hdp HF.out).drewN 1
            · exact grown_drewN (grown_setCell H5''.out _ (.inl hg1)) 1
            · refine K0_congr (H6.out.op hi1 hi3l HNE.out) (fun q _ => ?_)
              rw [el_set (by rw [H1.out]; exact hi1), ← HY.out]
          case measure => simp [intOf]; omega
        · clear h1 h2 h3 h4 h5
          have hfin : MaskPost w dp a cap ts j (.returned (.slice a' j c')) wr := ⟨ys, a', c', k4, rfl, H1.out, H2.out, H3.out, H4.out, H5.out, H6.out⟩
          have HFIN := Lib.hid hfin
          clear hfin
          by_cases ht0 : 0 < t
          · have hj1 : ¬ 1 < j := by omega
            clear hgo
            go_wp2_with fail
            go_ret
            exact HFIN.out
          · clear hgo
            obtain rfl : t = 0 := by omega
            go_wp2_with fail
            go_ret
            exact HFIN.out
end Go.Proofs.Ytodiokladojnjaa.B
