/- made.Dice.Masks: how many they are. -/
import Derived.Test.YtfleehlajngkbaaGU64
import Derived.Test.YtfleehlajngkbaaGDice
namespace Go.Proofs.Ytfleehlajngkbaa.G
open Go Go.RowKit Go.Shelf

/-- What Masks leaves. -/
def MasksPost (w : World) (dp : Nat) (a : Option Addr) (cap : Nat) (ts : List Int) (b : Nat) (e : Ending) (W : World) : Prop :=
  ∃ (ys : List V) (a' : Option Addr) (c' k' : Nat), e = .returned (.slice a' b c') ∧ ys.length = b ∧ Own W w.heap.size (.slice a' b c') ys ∧ Dice W dp a cap ts k' ∧ w.grownBy W (some dp)
def MsRel (w : World) (dp : Nat) (a : Option Addr) (cap : Nat) (ts : List Int) (n : Nat) (l : Value) (W : World) : Prop :=
  ∃ (ys : List V) (a' : Option Addr) (c' k' : Nat), l = .slice a' n c' ∧ ys.length = n ∧ Own W w.heap.size (.slice a' n c') ys ∧ Dice W dp a cap ts k' ∧ w.grownBy W (some dp)

set_option maxRecDepth 100000 in
set_option maxHeartbeats 1000000 in
theorem masks_any (w : World) (dp : Nat) (a : Option Addr) (cap : Nat) (ts : List Int) (k b : Nat) (hb : b ≤ 64) (hD : Dice w dp a cap ts k) :
    Calls Try.prog 18 #[.pointer (some ⟨dp, 0, none⟩), .int .i64 (b : Int)] w (MasksPost w dp a cap ts b) := by
  have hdp := hD.lt
  have HF := Lib.hid hD.far
  have HD := Lib.hid hD
  clear hD
  go_enter Try.func18, Try.ntmps18
  go_wp2_with fail
  go_loopw [5, 6] (fun l i wr => ∃ j : Nat, i = .int .i64 (j : Int) ∧ j ≤ b ∧ MsRel w dp a cap ts j l wr) (fun _ i _ => b - (intOf i).toNat)
  case atStart => exact ⟨0, rfl, Nat.zero_le _, [], none, 0, k, rfl, rfl, Own.nil _ _, HD.out, World.grownBy.refl _ _⟩
  case round =>
    clear HD
    obtain ⟨j, rfl, hj, ys, a', c', k', rfl, h1, h3, h4, h5⟩ := hrel
    have H1 := Lib.hid h1
    have H3 := Lib.hid h3
    have H4 := Lib.hid h4
    have H5 := Lib.hid h5
    have hsz := h5.size
    clear h1 h3 h4 h5
    by_cases hlt : j < b
    · have hsh := shl_one j
      obtain ⟨y, hy⟩ : ∃ y, 1#64 <<< j = y := ⟨_, rfl⟩
      rw [hy] at hsh
      have HY := Lib.hid hy
      clear hy
      go_wp2_with (at_builtin; refine wpList_app1 (α := V) rfl _ _ rfl y (by rfl) (by have := H3.out.alloc (.cells #[.int .u64 (y.toNat : Int)] 38); rw [← H1.out] at this; rw [← H1.out]; exact this) rfl (cell_new _ _ _) (by have := H1.out; omega) (by simp; omega) ?_; intro a3 cap3 w6 hown3 hg3 hb3 hw3; have HO3 := Lib.hid hown3; have HB3 := Lib.hid hb3; clear hown3 hg3 hb3 hw3)
      go_roundw
      case rel =>
        have hn : ys.length = j := H1.out
        rw [hn] at HO3 ⊢
        have hbb : Below w.heap.size wr w6 := ((Below.refl _ wr).alloc hsz _).trans HB3.out
        refine ⟨j + 1, by go_num, hlt, ys ++ [y], a3, cap3, k', rfl, by rw [List.length_append, hn]; rfl, HO3.out, H4.out.belowAt hbb hdp HF.out, grown_then H5.out hbb⟩
      case measure => simp [intOf]; omega
    · obtain rfl : j = b := by omega
      have HNX := Lib.hid (next_any wr dp a cap ts k' (3 * j + 1) (by omega) (by omega) H4.out)
      have e3 : ((3 * j + 1 : Nat) : Int) = 3 * (j : Int) + 1 := by omega
      rw [e3] at HNX
      clear e3
      go_wp2_with fail
      refine HNX.out.mono ?_
      rintro e w2 ⟨rr, k2, hr2, rfl, hd2, hg2⟩
      have H3' := Lib.hid (H3.out.far hg2 hdp)
      have H4' := Lib.hid hd2
      have H5' := Lib.hid (grown_trans H5.out hg2)
      clear hd2 hg2
      go_wp2_with fail
      go_loopw [7, 8, 9] (fun m _ _ wq => ∃ t : Nat, m = .int .i64 (t : Int) ∧ t ≤ 3 * j + 1 ∧ MsRel w dp a cap ts j (.slice a' j c') wq) (fun m _ _ _ => (intOf m).toNat)
      case atStart => exact ⟨rr, rfl, by omega, ys, a', c', k2, rfl, H1.out, H3'.out, H4'.out, H5'.out⟩
      case round =>
        clear H1 H3 H4 H5 H3' H4' H5' hsz HNX
        obtain ⟨t, rfl, ht, ys, a4, c4, k4, he, h1, h3, h4, h5⟩ := hrel
        simp only [Value.slice.injEq] at he
        obtain ⟨rfl, _, rfl⟩ := he
        have H1 := Lib.hid h1
        have H3 := Lib.hid h3
        have H4 := Lib.hid h4
        have H5 := Lib.hid h5
        have hsz := h5.size
        by_cases hgo : 0 < t ∧ 1 < j
        · obtain ⟨ht0, hj1⟩ := hgo
          have hwd : wrap64 ((t : Int) - 1) = (t : Int) - 1 := by unfold wrap64; omega
          have HNX := Lib.hid (next_any wr dp a cap ts k4 j (by omega) (by omega) H4.out)
          clear h1 h3 h4 h5
          go_wp2_with fail
          refine HNX.out.mono ?_
          rintro e w3 ⟨i1, k5, hi1, rfl, hd3, hg3⟩
          have HNY := Lib.hid (next_any w3 dp a cap ts k5 (j - 1) (by omega) (by omega) hd3)
          have H3' := Lib.hid (H3.out.far hg3 hdp)
          have H5' := Lib.hid (grown_trans H5.out hg3)
          have e4 : ((j - 1 : Nat) : Int) = (j : Int) - 1 := by omega
          rw [e4] at HNY
          clear hd3 hg3 e4 HNX
          go_wp2_with fail
          refine HNY.out.mono ?_
          rintro e w4 ⟨i2, k6, hi2, rfl, hd4, hg4⟩
          have H3'' := Lib.hid (H3'.out.far hg4 hdp)
          have H5'' := Lib.hid (grown_trans H5'.out hg4)
          have H4'' := Lib.hid hd4
          clear hd4 hg4 HNY H3' H5'
          obtain ⟨i3, hi3⟩ : ∃ i3 : Nat, i3 = (i1 + 1 + i2) % j := ⟨_, rfl⟩
          have hi3l : i3 < j := by rw [hi3]; exact Nat.mod_lt _ (by omega)
          have hrem : ((i1 : Int) + 1 + (i2 : Int)).tmod (j : Int) = (i3 : Int) := by
            rw [Int.tmod_eq_emod_of_nonneg (by omega), hi3, Int.natCast_emod, Int.natCast_add, Int.natCast_add]; rfl
          have HI3 := Lib.hid hi3
          clear hi3
          obtain ⟨g, rfl, hg1, hg2⟩ := H3''.out.fresh (by rw [H1.out]; omega)
          have q1 := H3''.out.cellV i1 (by rw [H1.out]; exact hi1)
          have q2 := H3''.out.free i1 (by rw [H1.out]; exact hi1)
          have q3 := H3''.out.cellV i3 (by rw [H1.out]; exact hi3l)
          have hrm := H3''.out.room
          have hx := xor_V (el ys i1) (el ys i3)
          obtain ⟨y, hy⟩ : ∃ y, el ys i1 ^^^ el ys i3 = y := ⟨_, rfl⟩
          rw [hy] at hx
          have HY := Lib.hid hy
          clear hy
          go_wp2_with fail
          go_region
          go_wp2_with fail
          go_roundw
          case rel =>
            refine ⟨t - 1, congrArg (Value.int .i64) (by omega), by omega, ys.set i1 y, some ⟨g, 0, none⟩, c', k6, rfl, by rw [List.length_set, H1.out], ?_, ?_, ?_⟩
            · exact (H3''.out.setV i1 y).drewN 1
            · have hbb : Below w.heap.size w4 (w4.setCell ⟨g, i1, none⟩ (.int .u64 (y.toNat : Int))) := (Below.refl _ w4).setCell (p := ⟨g, i1, none⟩) hg1 _
              exact (H4''.out.belowAt hbb hdp HF.out).drewN 1
            · exact grown_drewN (grown_setCell H5''.out _ (.inl hg1)) 1
          case measure => simp [intOf]; omega
        · clear h1 h3 h4 h5
          have hfin : MasksPost w dp a cap ts j (.returned (.slice a' j c')) wr := ⟨ys, a', c', k4, rfl, H1.out, H3.out, H4.out, H5.out⟩
          have HFIN := Lib.hid hfin
          clear hfin
          by_cases ht0 : 0 < t
          · have hj1 : ¬ 1 < j := by omega
            clear hgo
            go_wp2_with fail
            go_ret
            exact HFIN.out
          · clear hgo
            obtain rfl : t = 0 := by omega
            go_wp2_with fail
            go_ret
            exact HFIN.out
end Go.Proofs.Ytfleehlajngkbaa.G
