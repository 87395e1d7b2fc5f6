/- Dice.Bytes. -/
import Derived.Test.YtdafapionedooaaGDice
import Derived.Test.YtdafapionedooaaGU8
namespace Go.Proofs.Ytdafapionedooaa.G
open Go Go.RowKit Go.Shelf

/-- What Bytes leaves. -/
def BytesPost (w : World) (dp : Nat) (a : Option Addr) (cap : Nat) (ts : List Int) (n : Nat) (e : Ending) (W : World) : Prop :=
  ∃ (bs : List Y) (a' : Option Addr) (c k' : Nat), bs.length = n ∧ e = .returned (.slice a' n c) ∧ Own W w.heap.size (.slice a' n c) bs ∧ Dice W dp a cap ts k' ∧ w.grownBy W (some dp)
def BytesRel (w : World) (dp : Nat) (a : Option Addr) (cap : Nat) (ts : List Int) (n : Nat) (m b : Value) (W : World) : Prop :=
  ∃ (j k' c : Nat) (a' : Option Addr) (bs : List Y), m = .int .i64 (j : Int) ∧ j ≤ n ∧ bs.length = n - j ∧ b = .slice a' (n - j) c ∧ Own W w.heap.size (.slice a' (n - j) c) bs ∧ Dice W dp a cap ts k' ∧ w.grownBy W (some dp)

set_option maxRecDepth 100000 in
set_option maxHeartbeats 1000000 in
theorem bytes_any (w : World) (dp : Nat) (a : Option Addr) (cap : Nat) (ts : List Int) (k n : Nat) (hn : n ≤ 100000) (hD : Dice w dp a cap ts k) :
    Calls Try.prog 10 #[.pointer (some ⟨dp, 0, none⟩), .int .i64 (n : Int)] w (BytesPost w dp a cap ts n) := by
  have hdp := hD.lt
  have hfar := hD.far
  have HD := Lib.hid hD
  have HF := Lib.hid hfar
  clear hD hfar
  go_enter Try.func10, Try.ntmps10
  go_wp2
  go_loopw [1, 5] (fun m b wr => BytesRel w dp a cap ts n m b wr) (fun m _ _ => (intOf m).toNat)
  case atStart => exact ⟨n, k, 0, none, [], rfl, Nat.le_refl _, by simp, by rw [Nat.sub_self], by rw [Nat.sub_self]; exact Own.nil _ _, HD.out, World.grownBy.refl _ _⟩
  case round =>
    obtain ⟨j, k', c, a', bs, rfl, hj, hlen, rfl, hown, hd, hg⟩ := hrel
    have HLN := Lib.hid hlen
    have HO := Lib.hid hown
    have HDD := Lib.hid hd
    have HG := Lib.hid hg
    have hsz := hg.size
    clear hlen hown hd hg
    cases j with
    | zero =>
      go_wp2
      go_ret
      exact ⟨bs, a', c, k', by have := HLN.out; omega, rfl, HO.out, HDD.out, HG.out⟩
    | succ j =>
      have e1 : ((j + 1 : Nat) : Int) = (j : Int) + 1 := rfl
      have hnx := next_any wr dp a cap ts k' 256 (by omega) (by omega) HDD.out
      have HNX := Lib.hid hnx
      clear hnx
      go_wp2_with fail
      refine HNX.out.mono ?_
      rintro e w2 ⟨r, k2, hr, rfl, hd2, hg2⟩
      have HD2 := Lib.hid hd2
      have HG2 := Lib.hid hg2
      have hs2 := hg2.size
      have HO2 := Lib.hid (HO.out.grown hg2 (by
        cases hv : (Value.slice a' (n - (j + 1)) c).ownBlock with
        | none => exact .inl rfl
        | some g => exact .inr (by intro e; cases e; have := (World.ownsRow.lt HO.out _ hv).1; omega)))
      obtain ⟨y, rfl⟩ : ∃ y : Y, r = y.toNat := ⟨BitVec.ofNat 8 r, by rw [BitVec.toNat_ofNat, Nat.mod_eq_of_lt hr]⟩
      clear hd2 hg2
      go_wp2_with (at_builtin; refine wpList_app1 rfl _ _ rfl y rfl (HO2.out.alloc _) rfl (cell_new _ _ _) (by have := HLN.out; omega) (by simp; omega) ?_; intro a3 cap3 w3 hown3 hg3 hb3 _)
      go_roundw
      case rel =>
        have hlb : (bs ++ [y]).length = n - j := by rw [List.length_append, HLN.out]; simp; omega
        have hbl : bs.length + 1 = n - j := by rw [HLN.out]; omega
        have hbw : Below w.heap.size w2 w3 := ((Below.refl w.heap.size w2).alloc (by omega) _).trans hb3
        refine ⟨j, k2, cap3, a3, bs ++ [y], by go_num, by omega, hlb, by rw [hbl], by rw [← hbl]; exact hown3, HD2.out.belowAt hbw hdp HF.out, grown_then (grown_trans HG.out HG2.out) hbw⟩
      case measure => simp [intOf]

end Go.Proofs.Ytdafapionedooaa.G
