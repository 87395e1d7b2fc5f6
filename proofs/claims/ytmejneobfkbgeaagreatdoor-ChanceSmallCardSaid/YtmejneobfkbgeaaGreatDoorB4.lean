/- slices.Clone and nat.scale. Plain arithmetic: the numbers of sets of k out of n things. No program is named here. nat.Choose. slices.Clone of a slice of ints that holds something. Slices of bytes that a call has made itself. strings.TrimLeft at "0" and slices.Reverse at bytes, by the shelf's contracts. Plain arithmetic: decimal digits as bytes. No program is named here. nat.Print. The statements' own check 'awake'. math/bits.Len and cmp.Compare at ints, by the shelf's contracts. nat.Power. The reference's Same at equal numbers, and made.Mod. The walk of NatPascal. nat.Cmp. nat.Cmp, with the shelf's contract of cmp.Compare. nat.Sub. The arithmetic of a division by limbs: adding a multiple of the divisor, the guess of three limbs by two. nat.addTimes, over a part of a slice that is owned. math/bits.Div64 for a divisor of 48 bits. nat.guess. The guess over limbs, and what is left behind it. nat.takeOut. -/
import Derived.Test.YtmejneobfkbgeaaGreatDoorB3
import Derived.WalkSpells
import Derived.Shelf.Strings.Trim
import Derived.Shelf.SlicesE.Reverse
import Derived.Laws.BytesArg
import Derived.Shelf.Small.Bits
import Derived.Shelf.Small.Wraps
import Derived.Test.YtmejneobfkbgeaaGreatDoorProg
import Derived.Lib.Small
import Derived.Lib.Hide
import Derived.Deep.QuietTactic
import Derived.BigQuiet
namespace Go.Proofs.YtmejneobfkbgeaaGreatDoor
open Go Go.RowKit Go.Shelf
attribute [local go_sem] mask24

def SclRel (w : World) (B : Nat) (a : Option Addr) (cap : Nat) (zs : List Int) (f c0 : Nat) (c i : Value) (wr : World) : Prop :=
  ∃ (k : Nat) (ys : List Int) (q : Int), i = .int .i64 (k : Int) ∧ c = .int .i64 q ∧ k ≤ zs.length ∧ ys.length = zs.length ∧ M.Lim ys ∧ 0 ≤ q ∧ q < 16777216 ∧ ys.drop k = zs.drop k ∧
    M.val (ys.take k) + 16777216 ^ k * q = M.val (zs.take k) * f + c0 ∧ Own wr B (.slice a zs.length cap) ys ∧ Below B w wr

/-- What scale leaves: the limbs of the number times f and c0, in memory of the call's own from B on. -/
def SclPost (w : World) (B : Nat) (zs : List Int) (f c0 : Nat) (e : Ending) (W : World) : Prop :=
  ∃ a' cap' ys, e = .returned (.slice a' ys.length cap') ∧ Own W B (.slice a' ys.length cap') ys ∧ Below B w W ∧ M.Lim ys ∧ ys.length ≤ zs.length + 1 ∧ M.val ys = M.val zs * f + c0

set_option maxRecDepth 100000 in
set_option maxHeartbeats 1000000 in
/-- **nat.scale** -/
theorem scale_any (B : Nat) (a : Option Addr) (cap : Nat) (zs : List Int) (f c0 : Nat) (w : World) (hB : B ≤ w.heap.size) (hf : f < 16777216) (hc0 : c0 < 16777216) (hlim : M.Lim zs) (hlen : zs.length < 100000) (hown : Own w B (.slice a zs.length cap) zs) :
    Calls Tryz.prog 140 #[.slice a zs.length cap, .int .i64 (f : Int), .int .i64 (c0 : Int)] w (SclPost w B zs f c0) := by
  have HL := Lib.hid hlim
  have hm := hown.rowAt.room
  have hm2 := hown.rowAt.most
  have HO0 := Lib.hid hown
  clear hlim hown
  go_enter Tryz.func140, Tryz.ntmps140
  go_wp2
  go_loopw [7, 13] (fun c i wr => SclRel w B a cap zs f c0 c i wr) (fun _ i _ => zs.length - (intOf i).toNat)
  case atStart => exact ⟨0, zs, c0, rfl, rfl, Nat.zero_le _, rfl, HL.out, by omega, by omega, rfl, by simp [M.val], HO0.out, Below.refl _ _⟩
  case round =>
    obtain ⟨k, ys, q, rfl, rfl, hk, hlen2, hlim, hq0, hq1, hdrop, hval, hown, hbW⟩ := hrel
    have HLN := Lib.hid hlen2
    have HD := Lib.hid hdrop
    have HV := Lib.hid hval
    have HLIM := Lib.hid hlim
    have HO := Lib.hid hown
    have HB := Lib.hid hbW
    clear hlen2 hdrop hval hlim hown hbW
    have hbs := HB.out.size
    by_cases hlt : k < zs.length
    · obtain ⟨g, rfl, hgB, hgW, h3, h4, hcz, hfz⟩ := HO.out.at2 k (by rw [HLN.out]; exact hlt)
      have hel := HL.out.get k
      have hez : M.el ys k = M.el zs k := by
        have := congrArg (fun l => M.el l 0) HD.out
        simpa only [M.el_drop, Nat.add_zero] using this
      rw [hez] at hcz
      have HEZ := Lib.hid hez
      clear hez
      have hmb := M.mul_bound hel (b := (f : Int)) (by omega)
      go_wp2
      go_roundw
      case rel =>
        have hkl : k < ys.length := by rw [HLN.out]; exact hlt
        refine ⟨k + 1, ys.set k ((q + M.el zs k * (f : Int)) % 16777216), (q + M.el zs k * (f : Int)) / 16777216, by go_num, rfl, by omega, by rw [List.length_set]; exact HLN.out, HLIM.out.set _ (by omega) (by omega), by omega, by omega, ?_, ?_, ?_, HB.out.setCell (p := ⟨g, k, none⟩) hgB _⟩
        · rw [List.drop_set_of_lt (by omega)]
          have := congrArg (List.drop 1) HD.out
          rwa [List.drop_drop, List.drop_drop] at this
        · rw [M.val_set_succ _ _ _ hkl, M.val_take_succ', Int.pow_succ]
          have h1 := M.pow_split (16777216 ^ k) (q + M.el zs k * (f : Int))
          have h2 := HV.out
          rw [Int.mul_add, ← Int.mul_assoc] at h1
          rw [Int.add_mul]
          omega
        · have := HO.out
          rw [← HLN.out] at this ⊢
          exact this.set k _
      case measure => simp [intOf]; omega
    · have hk' : k = zs.length := by omega
      have hv := HV.out
      rw [List.take_of_length_le (by rw [HLN.out]; omega), List.take_of_length_le (by omega), hk'] at hv
      have HV2 := Lib.hid hv
      have HK := Lib.hid hk'
      clear hv hk'
      by_cases hq : 0 < q
      · go_wp2_with (at_builtin; refine wpList_app1 rfl _ _ rfl rfl (HO.out.alloc _) rfl (cell_new _ _ _) (by rw [HLN.out]; omega) (by simp; omega) ?_; intro a' cap' W' hown' hb')
        go_ret
        refine ⟨a', cap', ys ++ [q], by rw [List.length_append, HLN.out]; rfl, hown', HB.out.trans (((Below.refl B wr).alloc (by omega) _).trans hb'), HLIM.out.append (M.Lim.cons hq0 hq1 M.Lim.nil), by simp [HLN.out], ?_⟩
        rw [M.val_append, HLN.out]
        simpa [M.val] using HV2.out
      · have hq2 : q = 0 := by omega
        have hv := HV2.out
        rw [hq2] at hv
        have HV3 := Lib.hid hv
        clear hv hq2
        go_wp2
        go_ret
        exact ⟨a, cap, ys, by rw [HLN.out]; rfl, by rw [HLN.out]; exact HO.out, HB.out, HLIM.out, by rw [HLN.out]; omega, by simpa using HV3.out⟩
end Go.Proofs.YtmejneobfkbgeaaGreatDoor

namespace Go.Proofs.YtmejneobfkbgeaaGreatDoor
namespace M
/-- The number of sets of k out of n things. -/
def ch : Nat → Nat → Nat
  | _, 0 => 1
  | 0, _ + 1 => 0
  | n + 1, k + 1 => ch n k + ch n (k + 1)

theorem ch_zero (n : Nat) : ch n 0 = 1 := by cases n <;> rfl
theorem ch_succ (n k : Nat) : ch (n + 1) (k + 1) = ch n k + ch n (k + 1) := rfl
theorem ch_zero_succ (k : Nat) : ch 0 (k + 1) = 0 := rfl
theorem ch_gt : ∀ (n k : Nat), n < k → ch n k = 0
  | n, 0, h => by omega
  | 0, k + 1, _ => rfl
  | n + 1, k + 1, h => by rw [ch_succ, ch_gt n k (by omega), ch_gt n (k + 1) (by omega)]
theorem ch_self : ∀ n : Nat, ch n n = 1
  | 0 => rfl
  | n + 1 => by rw [ch_succ, ch_self n, ch_gt n (n + 1) (by omega)]
theorem ch_step (n : Nat) : ∀ k, (k + 1) * ch (n + 1) (k + 1) = (n + 1) * ch n k := by
  induction n with
  | zero =>
    intro k
    cases k with
    | zero => rfl
    | succ k => rw [ch_succ, ch_zero_succ, ch_zero_succ]; simp
  | succ n ih =>
    intro k
    cases k with
    | zero =>
      have := ih 0
      simp only [ch_zero, ch_succ] at *
      omega
    | succ k =>
      have h1 := ih k
      have h2 := ih (k + 1)
      rw [ch_succ (n + 1) (k + 1), Nat.mul_add, h2]
      rw [show (k + 1 + 1) * ch (n + 1) (k + 1) = (k + 1) * ch (n + 1) (k + 1) + ch (n + 1) (k + 1) from by rw [Nat.add_mul]; simp, h1]
      rw [show (n + 1 + 1) * ch (n + 1) (k + 1) = (n + 1) * ch (n + 1) (k + 1) + ch (n + 1) (k + 1) from by rw [Nat.add_mul]; simp]
      rw [ch_succ n k, Nat.mul_add]; omega
/-- The next number out of this one. -/
theorem ch_next (n k : Nat) (h : k < n) : (n - k) * ch n k = (k + 1) * ch n (k + 1) := by
  obtain ⟨n, rfl⟩ : ∃ m, n = m + 1 := ⟨n - 1, by omega⟩
  rw [ch_step]
  cases k with
  | zero => simp [ch_zero]
  | succ k =>
    have h1 := ch_step n k
    have h2 := ch_step n (k + 1)
    have h3 := ch_succ n (k + 1)
    have h4 := ch_succ n k
    have e : (n + 1 - (k + 1)) * ch (n + 1) (k + 1) + (k + 1) * ch (n + 1) (k + 1) = (n + 1) * ch (n + 1) (k + 1) := by rw [← Nat.add_mul]; congr 1; omega
    rw [h1] at e
    rw [h4, Nat.mul_add (n + 1)] at e
    rw [h4]
    omega
theorem ch_sym (n : Nat) : ∀ k, k ≤ n → ch n (n - k) = ch n k := by
  induction n with
  | zero => intro k h; rw [show k = 0 by omega]
  | succ n ih =>
    intro k h
    cases k with
    | zero => rw [Nat.sub_zero, ch_self, ch_zero]
    | succ k =>
      by_cases e : k = n
      · subst e; rw [Nat.sub_self, ch_zero, ch_self]
      · rw [show n + 1 - (k + 1) = (n - (k + 1)) + 1 from by omega, ch_succ, ch_succ, ih (k + 1) (by omega), show n - (k + 1) + 1 = n - k from by omega, ih k (by omega)]; omega
theorem ch_le (n : Nat) : ∀ k, ch n k ≤ 2 ^ n := by
  induction n with
  | zero => intro k; cases k <;> simp [ch]
  | succ n ih =>
    intro k
    cases k with
    | zero => rw [ch_zero]; exact Nat.pos_of_ne_zero (by simp)
    | succ k => have := ih k; have := ih (k + 1); rw [ch_succ, Nat.pow_succ]; omega
/-- The sum of the numbers of sets of fewer than k things. -/
def chSum (n : Nat) : Nat → Nat
  | 0 => 0
  | k + 1 => chSum n k + ch n k
theorem chSum_succ (n k : Nat) : chSum (n + 1) (k + 1) = chSum n k + chSum n (k + 1) := by
  induction k with
  | zero => simp [chSum, ch_zero]
  | succ k ih => rw [chSum, ih, ch_succ]; simp only [chSum]; omega
theorem chSum_gt (n k : Nat) : chSum n (n + 1 + k) = chSum n (n + 1) := by
  induction k with
  | zero => rfl
  | succ k ih => rw [← Nat.add_assoc, chSum, ih, ch_gt n _ (by omega)]; omega
theorem chSum_all (n : Nat) : chSum n (n + 1) = 2 ^ n := by
  induction n with
  | zero => rfl
  | succ n ih => rw [chSum_succ, ih, chSum_gt n 1, ih, Nat.pow_succ]; omega
theorem chSum_le (n k : Nat) (h : k ≤ n + 1) : chSum n k ≤ 2 ^ n := by
  rw [← chSum_all]
  obtain ⟨d, hd⟩ : ∃ d, n + 1 = k + d := ⟨n + 1 - k, by omega⟩
  rw [hd]; clear hd h
  induction d with
  | zero => exact Nat.le_refl _
  | succ d ih => rw [← Nat.add_assoc, chSum]; omega
end M
end Go.Proofs.YtmejneobfkbgeaaGreatDoor

namespace Go.Proofs.YtmejneobfkbgeaaGreatDoor
open Go Go.RowKit Go.Shelf

/-- What holds in Choose's loop: the sets of i out of n things. -/
def ChRel (w : World) (n m : Nat) (s i : Value) (W : World) : Prop :=
  ∃ (k : Nat) (a : Option Addr) (cap : Nat), i = .int .i64 (k : Int) ∧ k ≤ m ∧ s = .slice a (M.dig (M.ch n k)).length cap ∧ Own W (w.heap.size + 1) (.slice a (M.dig (M.ch n k)).length cap) (M.dig (M.ch n k)) ∧
    W.cell? ⟨w.heap.size, 0, none⟩ = some (.slice none 0 0) ∧ W.frozen? ⟨w.heap.size, 0, none⟩ = false ∧ Below w.heap.size w W

theorem own_one (w : World) (B : Nat) (h : B ≤ w.heap.size) : Own (w.alloc (.cells #[.int .i64 1] 3)) B (.slice (some ⟨w.heap.size, 0, none⟩) 1 1) [1] := by
  have := World.ownsRow_made (base := B) (e := 3) (size := 1) w #[.int .i64 1] 1 h (by unfold maxLen; omega) rfl
  obtain ⟨h1, h2 | ⟨g, cap, cur, e, hb, hh, r⟩⟩ := this
  · cases h2.1
  · cases e
    refine ⟨rfl, .inr ⟨_, 1, cur, rfl, hb, hh, Nat.le_refl _, r.2.1, r.2.2.1, ?_⟩⟩
    have hh' := World.alloc_heap_new w (.cells #[.int .i64 1] 3)
    rw [hh'] at hh
    cases hh
    rfl
theorem dig_one : M.dig 1 = [1] := by rw [M.dig_pos (by omega), show 1 / 16777216 = 0 from rfl, M.dig_zero]; rfl

theorem pow24 (k : Nat) : 16777216 ^ k = 2 ^ (24 * k) := by rw [show (16777216 : Nat) = 2 ^ 24 from rfl, ← Nat.pow_mul]
theorem len_pow {n e k : Nat} (h : n < 2 ^ e) (he : e ≤ 24 * k) : (M.dig n).length ≤ k :=
  M.dig_len_le.2 (by rw [pow24]; exact Nat.lt_of_lt_of_le h (Nat.pow_le_pow_right (Nat.succ_pos 1) he))
theorem ch_dig_len {n : Nat} (hn : n ≤ 4096) (k : Nat) : (M.dig (M.ch n k)).length ≤ 175 :=
  len_pow (e := n + 1) (Nat.lt_of_le_of_lt (M.ch_le n k) (Nat.pow_lt_pow_right (Nat.lt_succ_self 1) (Nat.lt_succ_self n))) (by omega)

theorem Own.num' {W : World} {B : Nat} {v : Value} {n : Nat} {zs : List Int} (h : Own W B v zs) (e : M.dig n = zs) : Num W (.agg #[v]) n := by
  subst e; exact h.num

/-- One round of Choose, in numbers. -/
theorem ch_round {n k : Nat} (h : k < n) {ys : List Int} (hl : M.Lim ys) (hv : M.val ys = M.val (M.dig (M.ch n k)) * ((n - k : Nat) : Int) + ((0 : Nat) : Int)) : M.trimL (M.shr ((k + 1 : Nat) : Int) ys).2 = M.dig (M.ch n (k + 1)) := by
  have e : M.val ys = ((M.ch n k * (n - k) : Nat) : Int) := by rw [hv, M.val_dig, Int.natCast_mul]; simp
  rw [(M.shr_nat (by omega) hl e).1, Nat.mul_comm, M.ch_next n k h, Nat.mul_comm, Nat.mul_div_cancel _ (by omega)]

set_option maxRecDepth 100000 in
set_option maxHeartbeats 2000000 in
theorem choose_hi (n k0 : Nat) (w : World) (hn : n ≤ 4096) (hk0 : k0 ≤ n) (hle : n - k0 < k0) :
    Calls Tryz.prog 103 #[.int .i64 (n : Int), .int .i64 (k0 : Int)] w fun e W' => ∃ v, e = .returned (.tuple #[v, .int .i64 0]) ∧ Num W' v (M.ch n k0) ∧ Below w.heap.size w W' := by
  have HM := Lib.hid (show M.ch n (n - k0) = M.ch n k0 from M.ch_sym n k0 hk0)
  have HC := Lib.hid (cell_of_new w (.slice none 0 0) 41)
  have ho := own_one (w.alloc (.cells #[.slice none 0 0] 41)) (w.heap.size + 1) (by simp)
  rw [World.size_alloc] at ho
  have HO1 := Lib.hid ho
  clear ho
  have d1 : decide ((n : Int) < 0) = false := by simp
  have d2 : decide ((4096 : Int) < (n : Int)) = false := by simp; omega
  have d3 : decide ((k0 : Int) < 0) = false := by simp
  have d4 : decide (n < k0) = false := by simp; omega
  go_enter Tryz.func103, Tryz.ntmps103
  go_wp2_with fail
  go_loopw [6, 29] (fun s i wr => ChRel w n (n - k0) s i wr) (fun _ i _ => (n - k0) - (intOf i).toNat)
  case atStart => exact ⟨0, _, 1, rfl, Nat.zero_le _, by rw [M.ch_zero, dig_one]; rfl, by rw [M.ch_zero, dig_one]; exact HO1.out, cell_later _ HC.out.1, frozen_later _ HC.out.1 HC.out.2, ((Below.refl _ w).alloc (Nat.le_refl _) _).alloc (by simp) _⟩
  case round =>
    clear HO1 HC
    obtain ⟨k, a, cap, rfl, hk, rfl, hown, hc0, hf0, hbW⟩ := hrel
    have hsW := hbW.size
    have hw1 : w.heap.size + 1 ≤ wr.heap.size := by have := lt_of_cell hc0; simp at this; omega
    have HB := Lib.hid hbW
    clear hbW
    by_cases hlt : k < n - k0
    · have hlen := ch_dig_len hn k
      have hs := scale_any (w.heap.size + 1) a cap (M.dig (M.ch n k)) (n - k) 0 wr hw1 (by omega) (by omega) (M.lim_dig _) (by omega) hown
      rw [show ((n - k : Nat) : Int) = (n : Int) - (k : Int) from by omega] at hs
      have HS := Lib.hid hs
      clear hs hown
      go_wp2_with fail
      refine HS.out.mono ?_
      rintro e w1 ⟨a1, cap1, ys, rfl, ho1, hb1, hlim1, hl1, hv1⟩
      have HR := Lib.hid (ch_round (by omega) hlim1 hv1)
      clear hv1 HS
      have hc1 := (hb1.cell (p := ⟨w.heap.size, 0, none⟩) (by simp)).trans hc0
      have hf1 := (hb1.frozen (p := ⟨w.heap.size, 0, none⟩) (by simp)).trans hf0
      have hsh := shrink_any (w.heap.size + 1) a1 cap1 ys (k + 1) w1 (by omega) (by omega) hlim1 ho1
      have hw2 : w.heap.size + 1 ≤ w1.heap.size := Nat.le_trans hw1 hb1.size
      have HO1 := Lib.hid ho1
      have HB1 := Lib.hid hb1
      have HSH := Lib.hid hsh
      clear ho1 hb1 hsh hc0 hf0
      go_wp2_with fail
      refine HSH.out.mono ?_
      rintro e w2 ⟨rfl, ho2, hg2⟩
      have hb2 := below_of_grown HO1.out hg2 hw2
      have hc2 := (hb2.cell (p := ⟨w.heap.size, 0, none⟩) (by simp)).trans hc1
      have hf2 := (hb2.frozen (p := ⟨w.heap.size, 0, none⟩) (by simp)).trans hf1
      rw [← M.shr_len ((k + 1 : Nat) : Int) ys] at ho2
      have htr := trim_any a1 (M.shr ((k + 1 : Nat) : Int) ys).2 cap1 w2 ho2.rowAt
      have hot := ho2.trimmed
      rw [HR.out] at htr hot
      rw [M.shr_len] at htr
      obtain ⟨a3, cap3, hcut⟩ := cut_slice a1 cap1 (M.dig (M.ch n (k + 1)))
      rw [hcut] at htr hot
      have hw3 : w.heap.size + 1 ≤ w2.heap.size := Nat.le_trans hw2 hb2.size
      have HT := Lib.hid htr
      have HOT := Lib.hid hot
      have HB2 := Lib.hid hb2
      clear htr hot hb2 hg2 ho2 hcut HSH HO1 hc1 hf1
      go_wp2_with fail
      refine HT.out.mono ?_
      rintro e w3 ⟨rfl, hb3⟩
      have HB3 := Lib.hid hb3
      have hc3 := (hb3.cell (p := ⟨w.heap.size, 0, none⟩) hw3).trans hc2
      have hf3 := (hb3.frozen (p := ⟨w.heap.size, 0, none⟩) hw3).trans hf2
      clear hb3
      go_wp2_with fail
      go_roundw
      case rel => exact ⟨k + 1, a3, cap3, by go_num, by omega, rfl, HOT.out.below HB3.out, hc3, hf3, ((HB.out.trans (HB1.out.mono (by omega))).trans (HB2.out.mono (by omega))).trans (HB3.out.mono (by omega))⟩
      case measure => simp [intOf]; omega
    · have hkm : k = n - k0 := by omega
      have hnum : Own wr (w.heap.size + 1) (.slice a (M.dig (M.ch n k)).length cap) (M.dig (M.ch n k0)) := by
        have e : M.ch n k0 = M.ch n k := by first | (rw [hkm]; done) | (rw [hkm]; exact HM.out.symm)
        rw [e]; exact hown
      have HN := Lib.hid hnum
      clear hnum hown hkm
      go_wp2
      exact bodyPost_ret (v := .tuple #[.agg #[.slice a (M.dig (M.ch n k)).length cap], .int .i64 0]) (by simp [results, Tryz.results103, go_sem, hc0]) rfl ⟨.agg #[.slice a (M.dig (M.ch n k)).length cap], rfl, (HN.out.setBelow (p := ⟨w.heap.size, 0, none⟩) (by simp) _).num, HB.out.setCell (p := ⟨w.heap.size, 0, none⟩) (Nat.le_refl _) _⟩

set_option maxRecDepth 100000 in
set_option maxHeartbeats 2000000 in
theorem choose_lo (n k0 : Nat) (w : World) (hn : n ≤ 4096) (hk0 : k0 ≤ n) (hle : k0 ≤ n - k0) :
    Calls Tryz.prog 103 #[.int .i64 (n : Int), .int .i64 (k0 : Int)] w fun e W' => ∃ v, e = .returned (.tuple #[v, .int .i64 0]) ∧ Num W' v (M.ch n k0) ∧ Below w.heap.size w W' := by
  have HM := Lib.hid (show M.ch n (k0) = M.ch n k0 from rfl)
  have HC := Lib.hid (cell_of_new w (.slice none 0 0) 41)
  have ho := own_one (w.alloc (.cells #[.slice none 0 0] 41)) (w.heap.size + 1) (by simp)
  rw [World.size_alloc] at ho
  have HO1 := Lib.hid ho
  clear ho
  have d1 : decide ((n : Int) < 0) = false := by simp
  have d2 : decide ((4096 : Int) < (n : Int)) = false := by simp; omega
  have d3 : decide ((k0 : Int) < 0) = false := by simp
  have d4 : decide (n < k0) = false := by simp; omega
  go_enter Tryz.func103, Tryz.ntmps103
  go_wp2_with fail
  go_loopw [6, 29] (fun s i wr => ChRel w n (k0) s i wr) (fun _ i _ => (k0) - (intOf i).toNat)
  case atStart => exact ⟨0, _, 1, rfl, Nat.zero_le _, by rw [M.ch_zero, dig_one]; rfl, by rw [M.ch_zero, dig_one]; exact HO1.out, cell_later _ HC.out.1, frozen_later _ HC.out.1 HC.out.2, ((Below.refl _ w).alloc (Nat.le_refl _) _).alloc (by simp) _⟩
  case round =>
    clear HO1 HC
    obtain ⟨k, a, cap, rfl, hk, rfl, hown, hc0, hf0, hbW⟩ := hrel
    have hsW := hbW.size
    have hw1 : w.heap.size + 1 ≤ wr.heap.size := by have := lt_of_cell hc0; simp at this; omega
    have HB := Lib.hid hbW
    clear hbW
    by_cases hlt : k < k0
    · have hlen := ch_dig_len hn k
      have hs := scale_any (w.heap.size + 1) a cap (M.dig (M.ch n k)) (n - k) 0 wr hw1 (by omega) (by omega) (M.lim_dig _) (by omega) hown
      rw [show ((n - k : Nat) : Int) = (n : Int) - (k : Int) from by omega] at hs
      have HS := Lib.hid hs
      clear hs hown
      go_wp2_with fail
      refine HS.out.mono ?_
      rintro e w1 ⟨a1, cap1, ys, rfl, ho1, hb1, hlim1, hl1, hv1⟩
      have HR := Lib.hid (ch_round (by omega) hlim1 hv1)
      clear hv1 HS
      have hc1 := (hb1.cell (p := ⟨w.heap.size, 0, none⟩) (by simp)).trans hc0
      have hf1 := (hb1.frozen (p := ⟨w.heap.size, 0, none⟩) (by simp)).trans hf0
      have hsh := shrink_any (w.heap.size + 1) a1 cap1 ys (k + 1) w1 (by omega) (by omega) hlim1 ho1
      have hw2 : w.heap.size + 1 ≤ w1.heap.size := Nat.le_trans hw1 hb1.size
      have HO1 := Lib.hid ho1
      have HB1 := Lib.hid hb1
      have HSH := Lib.hid hsh
      clear ho1 hb1 hsh hc0 hf0
      go_wp2_with fail
      refine HSH.out.mono ?_
      rintro e w2 ⟨rfl, ho2, hg2⟩
      have hb2 := below_of_grown HO1.out hg2 hw2
      have hc2 := (hb2.cell (p := ⟨w.heap.size, 0, none⟩) (by simp)).trans hc1
      have hf2 := (hb2.frozen (p := ⟨w.heap.size, 0, none⟩) (by simp)).trans hf1
      rw [← M.shr_len ((k + 1 : Nat) : Int) ys] at ho2
      have htr := trim_any a1 (M.shr ((k + 1 : Nat) : Int) ys).2 cap1 w2 ho2.rowAt
      have hot := ho2.trimmed
      rw [HR.out] at htr hot
      rw [M.shr_len] at htr
      obtain ⟨a3, cap3, hcut⟩ := cut_slice a1 cap1 (M.dig (M.ch n (k + 1)))
      rw [hcut] at htr hot
      have hw3 : w.heap.size + 1 ≤ w2.heap.size := Nat.le_trans hw2 hb2.size
      have HT := Lib.hid htr
      have HOT := Lib.hid hot
      have HB2 := Lib.hid hb2
      clear htr hot hb2 hg2 ho2 hcut HSH HO1 hc1 hf1
      go_wp2_with fail
      refine HT.out.mono ?_
      rintro e w3 ⟨rfl, hb3⟩
      have HB3 := Lib.hid hb3
      have hc3 := (hb3.cell (p := ⟨w.heap.size, 0, none⟩) hw3).trans hc2
      have hf3 := (hb3.frozen (p := ⟨w.heap.size, 0, none⟩) hw3).trans hf2
      clear hb3
      go_wp2_with fail
      go_roundw
      case rel => exact ⟨k + 1, a3, cap3, by go_num, by omega, rfl, HOT.out.below HB3.out, hc3, hf3, ((HB.out.trans (HB1.out.mono (by omega))).trans (HB2.out.mono (by omega))).trans (HB3.out.mono (by omega))⟩
      case measure => simp [intOf]; omega
    · have hkm : k = k0 := by omega
      have hnum : Own wr (w.heap.size + 1) (.slice a (M.dig (M.ch n k)).length cap) (M.dig (M.ch n k0)) := by
        have e : M.ch n k0 = M.ch n k := by first | (rw [hkm]; done) | (rw [hkm]; exact HM.out.symm)
        rw [e]; exact hown
      have HN := Lib.hid hnum
      clear hnum hown hkm
      go_wp2
      exact bodyPost_ret (v := .tuple #[.agg #[.slice a (M.dig (M.ch n k)).length cap], .int .i64 0]) (by simp [results, Tryz.results103, go_sem, hc0]) rfl ⟨.agg #[.slice a (M.dig (M.ch n k)).length cap], rfl, (HN.out.setBelow (p := ⟨w.heap.size, 0, none⟩) (by simp) _).num, HB.out.setCell (p := ⟨w.heap.size, 0, none⟩) (Nat.le_refl _) _⟩

set_option maxRecDepth 100000 in
set_option maxHeartbeats 1000000 in
theorem choose_none (n : Nat) (k : Int) (w : World) (hn : n ≤ 4096) (hk : k < 0 ∨ (n : Int) < k) :
    Calls Tryz.prog 103 #[.int .i64 (n : Int), .int .i64 k] w fun e W' => e = .returned (.tuple #[.agg #[.slice none 0 0], .int .i64 0]) ∧ Below w.heap.size w W' := by
  have c0 := (cell_of_new w (.slice none 0 0) 41).1
  have d1 : decide ((n : Int) < 0) = false := by simp
  have d2 : decide ((4096 : Int) < (n : Int)) = false := by simp; omega
  by_cases h : k < 0
  · clear hk
    go_enter Tryz.func103, Tryz.ntmps103
    go_wp2
    exact bodyPost_ret (v := .tuple #[.agg #[.slice none 0 0], .int .i64 0]) (by simp [results, Tryz.results103, go_sem]) rfl ⟨rfl, (Below.refl _ w).alloc (Nat.le_refl _) _⟩
  · have h2 : (n : Int) < k := by omega
    have h3 : ¬ k < 0 := h
    clear hk h
    go_enter Tryz.func103, Tryz.ntmps103
    go_wp2
    exact bodyPost_ret (v := .tuple #[.agg #[.slice none 0 0], .int .i64 0]) (by simp [results, Tryz.results103, go_sem]) rfl ⟨rfl, (Below.refl _ w).alloc (Nat.le_refl _) _⟩

/-- The number of sets of k out of n things, for any k. -/
def chI (n : Nat) (k : Int) : Nat := if k < 0 then 0 else M.ch n k.toNat

theorem num_zero (W : World) : Num W (.agg #[.slice none 0 0]) 0 := (Own.nil W 0).num' (by rw [M.dig_zero])

/-- **nat.Choose** -/
theorem choose_num (n : Nat) (k : Int) (w : World) (hn : n ≤ 4096) :
    Calls Tryz.prog 103 #[.int .i64 (n : Int), .int .i64 k] w fun e W' => ∃ v, e = .returned (.tuple #[v, .int .i64 0]) ∧ Num W' v (chI n k) ∧ Below w.heap.size w W' := by
  by_cases h : k < 0 ∨ (n : Int) < k
  · refine (choose_none n k w hn h).mono ?_
    rintro e W' ⟨rfl, hb⟩
    refine ⟨_, rfl, ?_, hb⟩
    have : chI n k = 0 := by
      unfold chI
      split
      · rfl
      · exact M.ch_gt _ _ (by omega)
    rw [this]
    exact num_zero _
  · obtain ⟨k0, rfl⟩ : ∃ k0 : Nat, k = k0 := ⟨k.toNat, by omega⟩
    have e : chI n (k0 : Int) = M.ch n k0 := by unfold chI; rw [if_neg (by omega)]; rfl
    rw [e]
    rcases Nat.lt_or_ge (n - k0) k0 with h1 | h1
    · exact choose_hi n k0 w hn (by omega) h1
    · exact choose_lo n k0 w hn (by omega) h1
end Go.Proofs.YtmejneobfkbgeaaGreatDoor

namespace Go.Proofs.YtmejneobfkbgeaaGreatDoor
open Go Go.RowKit Go.Shelf

theorem own_empty (w : World) (B : Nat) (h : B ≤ w.heap.size) : Own (w.alloc (.cells #[] 3)) B (.slice (some ⟨w.heap.size, 0, none⟩) 0 0) [] :=
  World.ownsRow_made (base := B) (e := 3) (size := 1) w #[] 0 h (by unfold maxLen; omega) rfl

/-- **append(s, t...)**, s owned, t any. -/
theorem wpList_appAll {W : World} {ops : Array Oper} {rest : List Oper} {o : Oper} {a : Act} {Q : Exit → Act → World → Prop} (hgd : o.guard = none) (s x : Operand)
    (ho : o.op = .call { callee := .builtin .append, args := #[s, x], argTypes := #[24, 24] }) {B : Nat} {v : Value} {zs ys : List Int} (hs : a.eval s = v) (hown : Own W B v zs)
    {b off cap : Nat} (hx : a.eval x = .slice (some ⟨b, off, none⟩) ys.length cap) (hr : Row W (some ⟨b, off, none⟩) ys cap) (hl : zs.length + ys.length < 1000000) (hbase : B ≤ W.heap.size)
    (h : ∀ a' cap' W', Own W' B (.slice a' (zs ++ ys).length cap') (zs ++ ys) → Below B W W' → wpList Tryz.prog ops Q rest (a.put o.dst (.slice a' (zs.length + ys.length) cap')) W') : wpList Tryz.prog ops Q (o :: rest) a W := by
  obtain ⟨i0, hi, hz0, hz1, hz2⟩ := info_parts info_int
  refine wpList_append_own W hgd s x 24 ho B 3 i0 (.int .i64 0) 1 8 Tryz.underlying24 hi hz0 hz1 hz2 rfl (by decide) v zs.length (zs.map (Value.int .i64)) hs hown ⟨b, off, none⟩ ys.length cap (ys.map (Value.int .i64)) hx (by simp) ?_ ?_ (by unfold maxLen; omega) (by omega) hbase ?_
  · intro j u hj
    rw [List.getElem?_map] at hj
    by_cases hlt : j < ys.length
    · have hc := hr.cell j hlt
      rw [List.getElem?_eq_getElem hlt] at hj
      simp only [Option.map_some, Option.some.injEq] at hj
      subst hj
      rw [M.el, List.getElem?_eq_getElem hlt] at hc
      by_cases hj0 : j = 0
      · subst hj0; simpa [Addr.add] using hc
      · simpa [Addr.add, hj0] using hc
    · rw [List.getElem?_eq_none (by omega)] at hj; simp at hj
  · intro u hu
    obtain ⟨z, _, rfl⟩ := List.mem_map.1 hu
    rfl
  · intro v' W' hown' hgrow _
    have ho2 : Own W' B v' (zs ++ ys) := by unfold Own; rw [List.length_append, List.map_append]; exact hown'
    have hB2 : Below B W W' := (Below.refl B W).grown hgrow hbase (fun k e => (World.ownsRow.lt hown k e).1)
    obtain ⟨a', cap', rfl, _⟩ := ho2.row
    have := h a' cap' W' ho2 hB2
    simpa using this

set_option maxRecDepth 100000 in
set_option maxHeartbeats 1000000 in
/-- **slices.Clone** -/
theorem clone_any (a : Option Addr) (zs : List Int) (cap : Nat) (w : World) (hR : Row w a zs cap) (h0 : 0 < zs.length) (hl : zs.length < 100000) :
    Calls Tryz.prog 47 #[.slice a zs.length cap] w fun e W' => ∃ a' cap', e = .returned (.slice a' zs.length cap') ∧ Own W' w.heap.size (.slice a' zs.length cap') zs ∧ Below w.heap.size w W' := by
  obtain ⟨b, off, rfl, _⟩ := hR.el 0 h0
  have HR := Lib.hid (hR.alloc (.cells #[] 3))
  have HO := Lib.hid (own_empty w w.heap.size (Nat.le_refl _))
  clear hR
  have q22 : ∀ (w : World) (a : Option Addr) (n c n' c' : Nat), (binOp .eql 24 (.slice a n c) (.slice none n' c')).run Tryz.prog w = .ok (.bool a.isNone) w := fun w a n c n' c' => Lib.run_eql_slice_nil w _ _ a n c n' c' Tryz.underlying24
  go_enter Tryz.func47, Tryz.ntmps47
  go_wp2_with (at_builtin; refine wpList_appAll rfl _ _ rfl rfl HO.out rfl HR.out (by simp; omega) (by simp) ?_; intro a' cap' W' hown' hb')
  go_ret
  exact ⟨a', cap', rfl, by simpa using hown', ((Below.refl _ w).alloc (Nat.le_refl _) _).trans hb'⟩
end Go.Proofs.YtmejneobfkbgeaaGreatDoor

namespace Go.Proofs.YtmejneobfkbgeaaGreatDoor
open Go Go.RowKit Go.Shelf

/-- The slice v of bytes, made from block B on, holds bs. -/
def OwnB (W : World) (B : Nat) (v : Value) (bs : List Nat) : Prop := W.ownsRow B 5 1 v bs.length (bs.map fun (b : Nat) => Value.int .u8 (b : Int))

theorem OwnB.nil (W : World) (B : Nat) : OwnB W B (.slice none 0 0) [] := World.ownsRow_nil _ _ _ _
theorem OwnB.below {W W' : World} {B : Nat} {v : Value} {bs : List Nat} (h : OwnB W B v bs) (hb : Below W.heap.size W W') : OwnB W' B v bs :=
  World.ownsRow.kept h (grown_of_below hb) (by cases v.ownBlock with | none => exact .inl rfl | some k => exact .inr (by intro e; cases e))
theorem OwnB.alloc {W : World} {B : Nat} {v : Value} {bs : List Nat} (h : OwnB W B v bs) (o : Obj) : OwnB (W.alloc o) B v bs :=
  h.below ((Below.refl _ W).alloc (Nat.le_refl _) _)
/-- Kept while another block below B turns. -/
theorem OwnB.kept {W W' : World} {B : Nat} {v : Value} {bs : List Nat} (h : OwnB W B v bs) {row : Option Nat} (hg : W.grownBy W' row) (hr : ∀ k, row = some k → k < B) : OwnB W' B v bs :=
  World.ownsRow.kept h hg (by
    cases hv : v.ownBlock with
    | none => exact .inl rfl
    | some k => exact .inr (by intro e; have h1 := hr k e.symm; have h2 := (World.ownsRow.lt h k hv).1; omega))
theorem OwnB.slice {W : World} {B : Nat} {v : Value} {bs : List Nat} (h : OwnB W B v bs) : ∃ a cap, v = .slice a bs.length cap := by
  obtain ⟨h1, h2 | ⟨g, cap, cur, hv, _⟩⟩ := h
  · exact ⟨none, 0, by rw [h2.1, h2.2]⟩
  · exact ⟨_, cap, hv⟩
theorem OwnB.parts {W : World} {B : Nat} {a : Option Addr} {n cap : Nat} {bs : List Nat} (h : OwnB W B (.slice a n cap) bs) (h0 : 0 < bs.length) :
    ∃ g, a = some ⟨g, 0, none⟩ ∧ B ≤ g ∧ g < W.heap.size ∧ bs.length ≤ cap ∧ cap ≤ 9223372036854775807 ∧ ∀ (j : Nat) (hj : j < bs.length), W.cell? ⟨g, j, none⟩ = some (.int .u8 (bs[j] : Nat)) ∧ W.frozen? ⟨g, j, none⟩ = false := by
  have h' := h
  obtain ⟨h1, h2 | ⟨g, cap', cur, hv, hg, hh, r1, r2, r3⟩⟩ := h
  · omega
  · cases hv
    refine ⟨g, rfl, hg, (Array.getElem?_eq_some_iff.1 hh).1, r1, r2, fun j hj => ⟨?_, World.ownsRow.frozenAt h' j⟩⟩
    rw [World.ownsRow.cellAt h' j (by simpa using hj), List.getElem?_map, List.getElem?_eq_getElem hj]
    rfl

theorem info_byte : (Tryz.prog.info? 5).map (fun i => (i.zero, i.size, i.bytes)) = some (some (.int .u8 0), 1, 1) := by kernel_rfl

/-- **append(s, x)**, s a slice of bytes that is owned. -/
theorem wpList_appB {W : World} {ops : Array Oper} {rest : List Oper} {o : Oper} {a : Act} {Q : Exit → Act → World → Prop} (hgd : o.guard = none) (s x : Operand)
    (ho : o.op = .call { callee := .builtin .append, args := #[s, x], argTypes := #[34, 34] }) {B : Nat} {v : Value} {bs : List Nat} {X : Int} (z : Nat) (hs : a.eval s = v) (hown : OwnB W B v bs)
    {b : Nat} (hx : a.eval x = .slice (some ⟨b, 0, none⟩) 1 1) (hc : W.cell? ⟨b, 0, none⟩ = some (.int .u8 X)) (hz : X = (z : Int)) (hl : bs.length < 1000000) (hbase : B ≤ W.heap.size)
    (h : ∀ a' cap' W', OwnB W' B (.slice a' (bs ++ [z]).length cap') (bs ++ [z]) → W.grownBy W' v.ownBlock → wpList Tryz.prog ops Q rest (a.put o.dst (.slice a' (bs.length + 1) cap')) W') : wpList Tryz.prog ops Q (o :: rest) a W := by
  subst hz
  obtain ⟨i0, hi, hz0, hz1, hz2⟩ := info_parts info_byte
  refine wpList_append_own W hgd s x 34 ho B 5 i0 (.int .u8 0) 1 1 Tryz.underlying34 hi hz0 hz1 hz2 rfl (by decide) v bs.length _ hs hown ⟨b, 0, none⟩ 1 1 [.int .u8 (z : Int)] hx rfl ?_ ?_ (by unfold maxLen; omega) (by omega) hbase ?_
  · intro j u hj
    match j, hj with
    | 0, hj => simp at hj; subst hj; simpa [Addr.add] using hc
  · intro u hu; simp at hu; subst hu; rfl
  · intro v' W' hown' hgrow _
    have ho2 : OwnB W' B v' (bs ++ [z]) := by unfold OwnB; simpa using hown'
    obtain ⟨a', cap', rfl⟩ := ho2.slice
    have := h a' cap' W' ho2 hgrow
    simpa using this
end Go.Proofs.YtmejneobfkbgeaaGreatDoor

namespace Go.Proofs.YtmejneobfkbgeaaGreatDoor
open Go Go.RowKit Go.Shelf Go.Sort

def trimRen : Go.Shelf.Ren := ⟨fun | 231 => 98 | n => n, fun | 9 => 9 | 5 => 5 | 3 => 3 | 4 => 4 | n => n, fun | n => n⟩
theorem trimLays : Go.Proofs.Lays.n231 Tryz.prog trimRen := {
  mixed := by kernel_rfl
  f231 := Tryz.func98.trans (congrArg some (by kernel_rfl))
  t3 := Tryz.underlying3
  a3 := Tryz.isAgg3
  z3 := Tryz.sizeOf3
  v3 := Tryz.zeroValue3
  t4 := Tryz.underlying4
  a4 := Tryz.isAgg4
  z4 := Tryz.sizeOf4
  v4 := Tryz.zeroValue4
  t5 := Tryz.underlying5
  a5 := Tryz.isAgg5
  z5 := Tryz.sizeOf5
  v5 := Tryz.zeroValue5
  t9 := Tryz.underlying9
  a9 := Tryz.isAgg9
  z9 := Tryz.sizeOf9
  v9 := Tryz.zeroValue9 }
theorem trimLeftByte_any (s : ByteArray) (c : UInt8) (w : World) :
    Calls Tryz.prog 98 #[.string s, .int .u8 c.toNat] w fun e w' => e = .returned (.string ⟨(Lib.trimLeftB s.data.toList c).toArray⟩) ∧ w' = w := Any.strings_trimLeftByte trimLays s c w

def revRen : Go.Shelf.Ren := ⟨fun | 35 => 50 | n => n, fun | 0 => 0 | 3 => 3 | 4 => 4 | 22 => 34 | 23 => 5 | n => n, fun | n => n⟩
theorem revLays : Go.Proofs.SlLaysE.n35 Tryz.prog revRen := {
  mixed := by kernel_rfl
  f35 := ⟨Tryz.f50.name, by decide, Tryz.func50.trans (congrArg some (by kernel_rfl))⟩
  t0 := Tryz.underlying0
  a0 := Tryz.isAgg0
  z0 := Tryz.sizeOf0
  v0 := Tryz.zeroValue0
  t3 := Tryz.underlying3
  a3 := Tryz.isAgg3
  z3 := Tryz.sizeOf3
  v3 := Tryz.zeroValue3
  t4 := Tryz.underlying4
  a4 := Tryz.isAgg4
  z4 := Tryz.sizeOf4
  v4 := Tryz.zeroValue4
  t22 := Tryz.underlying34
  a22 := Tryz.isAgg34
  z22 := Tryz.sizeOf34
  v22 := Tryz.zeroValue34
  a23 := Tryz.isAgg5
  z23 := Tryz.sizeOf5 }

/-- What lies behind slices.Reverse: the cells reversed; nothing below them has turned. -/
structure RevPost (w : World) (g cap : Nat) (bs : List Nat) (w' : World) : Prop where
  cells : ∀ (j : Nat) (hj : j < bs.reverse.length), w'.cell? ⟨g, j, none⟩ = some (.int .u8 (bs.reverse[j] : Nat))
  below : ∀ B, B ≤ g → B ≤ w.heap.size → Below B w w'
  size : w'.heap.size = w.heap.size

theorem reverse_any (g cap : Nat) (bs : List Nat) (w : World) (hl : bs.length ≤ 9223372036854775807) (hc : ∀ (j : Nat) (hj : j < bs.length), w.cell? ⟨g, j, none⟩ = some (.int .u8 (bs[j] : Nat)) ∧ w.frozen? ⟨g, j, none⟩ = false) :
    Calls Tryz.prog 50 #[.slice (some ⟨g, 0, none⟩) bs.length cap] w fun e w' => e = .returned (.tuple #[]) ∧ RevPost w g cap bs w' := by
  have hH : Holds (fun (b : Nat) => Value.int .u8 (b : Int)) w g 0 bs.toArray := fun j hj => by
    have hj' : j < bs.length := by simpa using hj
    obtain ⟨h1, h2⟩ := hc j hj'
    rw [Nat.zero_add]
    refine ⟨?_, h2⟩
    rw [h1]
    simp [getElem!_pos, hj']
  refine (AnyE.slices_Reverse revLays (fun (b : Nat) => Value.int .u8 (b : Int)) (fun _ => rfl) g 0 cap bs w hH hl).mono ?_
  rintro e w' ⟨he, n, rfl⟩
  refine ⟨he, ?_, ?_, ?_⟩
  · intro j hj
    have h := (holds_putRow (fun (b : Nat) => Value.int .u8 (b : Int)) _ g 0 bs.toArray bs.reverse.toArray (holds_ahead _ w n g 0 _ hH) (by simp) j (by simpa using hj)).1
    rw [Nat.zero_add] at h
    rw [h]
    simp only [List.length_reverse] at hj
    simp [getElem!_pos, hj]
  · intro B h1 h2
    refine ⟨rfl, rfl, rfl, by simp [putRow, mapBlock], fun k hk => ?_⟩
    simp only [putRow, mapBlock, Array.getElem?_modify]
    rw [if_neg (by omega)]
    rfl
  · simp [putRow, mapBlock]

set_option maxRecDepth 100000 in
set_option maxHeartbeats 400000 in
/-- strings.TrimLeft(s, "0") -/
theorem trimLeft_zero (s : ByteArray) (w : World) (hs : s.size ≤ 9223372036854775807) :
    Calls Tryz.prog 51 #[.string s, .string ⟨#[48]⟩] w fun e w' => e = .returned (.string ⟨(s.data.toList.dropWhile (· == 48)).toArray⟩) ∧ w' = w := by
  by_cases h0 : s.data.toList = []
  · have hs0 : s = ⟨#[]⟩ := by obtain ⟨⟨l⟩⟩ := s; simp at h0; subst h0; rfl
    subst hs0
    go_enter Tryz.func51, Tryz.ntmps51
    go_wp2_with fail
    go_ret
    exact ⟨rfl, rfl⟩
  · have hb : s.toList.isEmpty = false := by rw [ByteArray.toList_eq]; simpa using h0
    have hb2 : ¬ s.toList = [] := by rw [ByteArray.toList_eq]; exact h0
    have HT := Lib.hid (trimLeftByte_any s 48 w)
    go_enter Tryz.func51, Tryz.ntmps51
    go_wp2_with fail
    refine HT.out.mono ?_
    rintro e w' ⟨rfl, rfl⟩
    go_wp2_with fail
    go_ret
    exact ⟨rfl, rfl⟩
end Go.Proofs.YtmejneobfkbgeaaGreatDoor

namespace Go.Proofs.YtmejneobfkbgeaaGreatDoor
namespace M
/-- The k lowest digits of g, lowest first, as bytes. -/
def dg : Nat → Nat → List Nat
  | 0, _ => []
  | k + 1, g => (48 + g % 10) :: dg k (g / 10)
theorem dg_len (k g : Nat) : (dg k g).length = k := by
  induction k generalizing g with
  | zero => rfl
  | succ k ih => simp [dg, ih]
theorem dg_add (a b g : Nat) : dg (a + b) g = dg a g ++ dg b (g / 10 ^ a) := by
  induction a generalizing g with
  | zero => simp [dg]
  | succ a ih =>
    rw [show a + 1 + b = (a + b) + 1 from by omega]
    simp only [dg, List.cons_append, ih]
    rw [Nat.div_div_eq_div_mul, Nat.pow_succ, Nat.mul_comm (10 ^ a) 10]
theorem dg_mod (a g : Nat) : dg a (g % 10 ^ a) = dg a g := by
  induction a generalizing g with
  | zero => rfl
  | succ a ih =>
    simp only [dg]
    have e1 : g % 10 ^ (a + 1) % 10 = g % 10 := by rw [Nat.pow_succ, Nat.mul_comm]; exact Nat.mod_mul_right_mod g 10 (10 ^ a)
    have e2 : g % 10 ^ (a + 1) / 10 = g / 10 % 10 ^ a := by rw [Nat.pow_succ, Nat.mul_comm]; exact Nat.mod_mul_right_div_self g 10 (10 ^ a)
    rw [e1, e2, ih]
theorem dg_snoc (k g : Nat) : dg (k + 1) g = dg k g ++ [48 + g / 10 ^ k % 10] := by rw [dg_add]; rfl
theorem dg_zero (k : Nat) : dg k 0 = List.replicate k 48 := by
  induction k with
  | zero => rfl
  | succ k ih => simp [dg, ih, List.replicate_succ]
theorem dg_byte (k g : Nat) : ∀ b ∈ dg k g, 48 ≤ b ∧ b ≤ 57 := by
  induction k generalizing g with
  | zero => intro b h; cases h
  | succ k ih =>
    intro b h
    simp only [dg, List.mem_cons] at h
    rcases h with h | h
    · omega
    · exact ih _ b h
/-- The digits of n, highest first, without leading zeros, taken from its k lowest digits. -/
def decs (k n : Nat) : List Nat := (dg k n).reverse.dropWhile (· == 48)
theorem decs_more (k d n : Nat) (h : n < 10 ^ k) : decs (k + d) n = decs k n := by
  unfold decs
  rw [dg_add, Nat.div_eq_of_lt h, dg_zero, List.reverse_append, List.reverse_replicate]
  induction d with
  | zero => simp
  | succ d ih => rw [List.replicate_succ, List.cons_append, List.dropWhile_cons_of_pos rfl, ih]
theorem decs_any {k j n : Nat} (hk : n < 10 ^ k) (hj : n < 10 ^ j) : decs k n = decs j n := by
  rcases Nat.le_total k j with h | h
  · obtain ⟨d, rfl⟩ : ∃ d, j = k + d := ⟨j - k, by omega⟩
    exact (decs_more k d n hk).symm
  · obtain ⟨d, rfl⟩ : ∃ d, k = j + d := ⟨k - j, by omega⟩
    exact decs_more j d n hj
end M
end Go.Proofs.YtmejneobfkbgeaaGreatDoor

namespace Go.Proofs.YtmejneobfkbgeaaGreatDoor
open Go Go.RowKit Go.Shelf

/-- The length of a slice. -/
def lenOf : Value → Nat | .slice _ n _ => n | _ => 0

def PrRel (w : World) (n Bd : Nat) (d r : Value) (W : World) : Prop :=
  ∃ (j : Nat) (a : Option Addr) (cap : Nat) (a2 : Option Addr) (cap2 : Nat), r = .slice a (M.dig (n / 10 ^ (9 * j))).length cap ∧ Own W w.heap.size (.slice a (M.dig (n / 10 ^ (9 * j))).length cap) (M.dig (n / 10 ^ (9 * j))) ∧
    (∀ g, (Value.slice a (M.dig (n / 10 ^ (9 * j))).length cap).ownBlock = some g → g < Bd) ∧ d = .slice a2 (9 * j) cap2 ∧ OwnB W Bd (.slice a2 (9 * j) cap2) (M.dg (9 * j) n) ∧ j + (M.dig (n / 10 ^ (9 * j))).length ≤ 200 ∧ Below w.heap.size w W ∧ Bd ≤ W.heap.size

def PrIn (w : World) (vq : Value) (D : List Nat) (qs : List Int) (c g Bd : Nat) (d gr i : Value) (W : World) : Prop :=
  ∃ (k gk : Nat) (a2 : Option Addr) (cap2 : Nat), i = .int .i64 (k : Int) ∧ k ≤ 9 ∧ gr = .int .i64 (gk : Int) ∧ gk = g / 10 ^ k ∧ gk < 1000000000 ∧ d = .slice a2 (c + k) cap2 ∧ OwnB W Bd (.slice a2 (c + k) cap2) (D ++ M.dg k g) ∧ Own W w.heap.size vq qs ∧ Below w.heap.size w W ∧ Bd ≤ W.heap.size

def PrPost (n : Nat) (e : Ending) : Prop := ∃ k, n < 10 ^ k ∧ e = .returned (.string ⟨((M.decs k n).map UInt8.ofNat).toArray⟩)

theorem pr_app {w W W' : World} {N Bd : Nat} {vq vd : Value} {qs : List Int} {ds : List Nat} {o : Obj} (hO : Own W N vq qs) (hrest : ∀ g, vq.ownBlock = some g → g < Bd) (hD : OwnB W Bd vd ds) (hg : (W.alloc o).grownBy W' vd.ownBlock) (hBd : Bd ≤ W.heap.size) (hN : N ≤ Bd) (hbw : Below N w W) :
    Own W' N vq qs ∧ Below N w W' ∧ Bd ≤ W'.heap.size := by
  have hb : ∀ k, vd.ownBlock = some k → Bd ≤ k := fun k e => (World.ownsRow.lt hD k e).1
  refine ⟨World.ownsRow.kept (hO.alloc o) hg ?_, ((hbw.alloc (Nat.le_trans hN hBd) o).grown hg (by simp; omega) (fun k e => Nat.le_trans hN (hb k e))), Nat.le_trans hBd (Nat.le_trans (by simp) hg.size)⟩
  cases hv : vq.ownBlock with
  | none => exact .inl rfl
  | some k => exact .inr (by intro e; have := hrest k hv; have := hb k e.symm; omega)

theorem pr_conv {w w' : World} {g cap L : Nat} {bs : List Nat} (h : RevPost w g cap bs w') (hl : bs.length = L) :
    (convert 34 9 (.slice (some ⟨g, 0, none⟩) L cap)).run Tryz.prog w' = .ok (.string (strOfNums (bs.reverse.map fun (b : Nat) => (b : Int)))) w' := by
  refine run_convert_bytes_arg w' 34 5 Tryz.underlying34 Tryz.underlying5 g 0 L cap _ (by simp [hl]) (fun i hi => ?_) 9 Tryz.underlying9
  have hi' : i < bs.reverse.length := by simp; omega
  rw [Nat.zero_add, h.cells i hi', List.getD_eq_getElem?_getD, List.getElem?_map, List.getElem?_eq_getElem hi']
  rfl

theorem drop_bytes (l : List Nat) (h : ∀ b ∈ l, b < 256) : ((l.map fun (b : Nat) => (b : Int)).map fun n => UInt8.ofNat n.toNat).dropWhile (· == 48) = (l.dropWhile (· == 48)).map UInt8.ofNat := by
  induction l with
  | nil => rfl
  | cons b l ih =>
    have hb := h b (List.mem_cons_self ..)
    have i := ih (fun x hx => h x (List.mem_cons_of_mem _ hx))
    simp only [List.map_cons, Int.toNat_natCast, List.dropWhile_cons]
    by_cases e : b = 48
    · subst e
      simp only [beq_self_eq_true, if_true]
      exact i
    · have e2 : (UInt8.ofNat b == 48) = false := by
        rw [beq_eq_false_iff_ne]
        intro hc
        have := congrArg UInt8.toNat hc
        rw [UInt8.toNat_ofNat'] at this
        have h48 : (48 : UInt8).toNat = 48 := rfl
        rw [h48] at this
        omega
      have e3 : (b == 48) = false := by rw [beq_eq_false_iff_ne]; exact e
      rw [e2, e3]
      simp

theorem ownBlock_len (a : Option Addr) (n c n' c' : Nat) : (Value.slice a n c).ownBlock = (Value.slice a n' c').ownBlock := by cases a <;> rfl
theorem ownBlock_cut {a : Option Addr} {c : Nat} {ts : List Int} {n' c' Bd : Nat} (h : ∀ g, (Value.slice a n' c').ownBlock = some g → g < Bd) : ∀ g, (cut a c ts).ownBlock = some g → g < Bd := by
  unfold cut
  split
  · intro g e; cases e
  · intro g e; exact h g ((ownBlock_len _ _ _ _ _).trans e)

theorem dig_shorter {m : Nat} (h : 0 < m) : (M.dig (m / 1000000000)).length < (M.dig m).length := by
  have h1 := M.dig_len_le.1 (Nat.le_refl (M.dig m).length)
  have h0 : (M.dig m).length ≠ 0 := by intro e; have := M.dig_nil.1 (List.length_eq_zero_iff.1 e); omega
  obtain ⟨k, hk⟩ := Nat.exists_eq_succ_of_ne_zero h0
  rw [hk] at h1 ⊢
  have : (M.dig (m / 1000000000)).length ≤ k := M.dig_len_le.2 (by rw [Nat.pow_succ] at h1; omega)
  omega

set_option maxRecDepth 100000 in
set_option maxHeartbeats 2000000 in
theorem print_pos (a : Option Addr) (cap n : Nat) (w : World) (hn : 0 < n) (hlen : (M.dig n).length ≤ 200) (hR : Row w a (M.dig n) cap) :
    Calls Tryz.prog 19 #[.agg #[.slice a (M.dig n).length cap]] w fun e W' => PrPost n e ∧ Below w.heap.size w W' := by
  have Hv := Lib.hid (vld_dig hlen)
  have h0 : 0 < (M.dig n).length := by
    rcases Nat.eq_zero_or_pos (M.dig n).length with h | h
    · have := M.dig_nil.1 (List.length_eq_zero_iff.1 h); omega
    · exact h
  have hb1 := (Below.refl _ w).alloc (Nat.le_refl _) (.cells #[.slice a (M.dig n).length cap] 41)
  have c0 := cell_new w (.slice a (M.dig n).length cap) 41
  have hs1 : (w.alloc (.cells #[.slice a (M.dig n).length cap] 41)).heap.size = w.heap.size + 1 := by simp
  have HR := Lib.hid (hR.below hb1)
  have hca := hR.room
  have hcm := hR.most
  clear hR
  go_enter Tryz.func19, Tryz.ntmps19
  go_wp2_with fail
  generalize (w.alloc (.cells #[.slice a (M.dig n).length cap] 41)) = w1 at *
  have HS1 := Lib.hid hs1
  have HB1 := Lib.hid hb1
  have hlt1 : w.heap.size < w1.heap.size := by omega
  clear hs1 hb1
  refine (valid_yes a _ cap _ HR.out Hv.out).mono ?_
  rintro e w2 ⟨rfl, hb2⟩
  have c2 := (hb2.cell (p := ⟨w.heap.size, 0, none⟩) hlt1).trans c0
  have HB2 := Lib.hid (HB1.out.trans (hb2.mono (by have := HS1.out; omega)))
  have hcl := clone_any a (M.dig n) cap w2 (HR.out.below hb2) h0 (by omega)
  have hs2 := hb2.size
  have HCL := Lib.hid hcl
  clear hcl hb2 c0
  go_wp2_with fail
  refine HCL.out.mono ?_
  rintro e w3 ⟨a', cap', rfl, ho3, hb3⟩
  have HO3 := Lib.hid ho3
  have HB3 := Lib.hid hb3
  clear ho3 hb3 c2 HCL
  go_wp2_with fail
  go_loopw [3, 4] (fun d r wr => PrRel w n w3.heap.size d r wr) (fun _ r _ => lenOf r)
  case atStart =>
    refine ⟨0, a', cap', none, 0, by simp, by simpa using HO3.out.mono (by omega), fun g hg => (World.ownsRow.lt HO3.out g (by simpa using hg)).2, rfl, OwnB.nil _ _, by simpa using hlen, HB2.out.trans (HB3.out.mono (by omega)), Nat.le_refl _⟩
  case round =>
    obtain ⟨j, a1, cap1, a2, cap2, rfl, ho, hg, rfl, hd, hj, hbW, hBd⟩ := hrel
    have hN : w.heap.size ≤ w3.heap.size := by have := HB2.out.size; have := HB3.out.size; omega
    have hgr : ∀ k, (Value.slice a2 (9 * j) cap2).ownBlock = some k → w3.heap.size ≤ k := fun k e => (World.ownsRow.lt hd k e).1
    obtain ⟨m, hm⟩ : ∃ m, m = n / 10 ^ (9 * j) := ⟨_, rfl⟩
    rw [← hm] at ho hg hj ⊢
    have HM := Lib.hid hm
    have HD := Lib.hid hd
    have HG := Lib.hid hg
    have HBW := Lib.hid hbW
    have HGR := Lib.hid hgr
    have HO := Lib.hid ho
    clear hm hd hg hbW hgr
    by_cases h0m : 0 < m
    · have hl0 : 0 < (M.dig m).length := by
        rcases Nat.eq_zero_or_pos (M.dig m).length with h | h
        · have := M.dig_nil.1 (List.length_eq_zero_iff.1 h); omega
        · exact h
      have hsh : Calls Tryz.prog 49 #[.slice a1 (M.dig m).length cap1, .int .i64 1000000000] wr _ := shrink_any w.heap.size a1 cap1 (M.dig m) 1000000000 wr (by omega) (by omega) (M.lim_dig m) ho
      have hnat := M.shr_nat (d := 1000000000) (by omega) (M.lim_dig m) (M.val_dig m)
      rw [hnat.2] at hsh
      have hqlen := M.shr_len ((1000000000 : Nat) : Int) (M.dig m)
      have hTR := hnat.1
      generalize (M.shr ((1000000000 : Nat) : Int) (M.dig m)).2 = qs at *
      have HSH := Lib.hid hsh
      have HTR := Lib.hid hTR
      have HQ := Lib.hid hqlen
      clear hsh hTR hqlen hnat ho
      go_wp2_with fail
      refine HSH.out.mono ?_
      rintro e w4 ⟨rfl, ho4, hg4⟩
      have hd4 := HD.out.kept hg4 HG.out
      have hb4 := below_of_grown HO.out hg4 (by have := HBW.out.size; omega)
      have hB4 : w3.heap.size ≤ w4.heap.size := Nat.le_trans hBd hb4.size
      rw [← HQ.out] at ho4
      have HO4 := Lib.hid ho4
      have HD4 := Lib.hid hd4
      have HB4 := Lib.hid (HBW.out.trans hb4)
      clear ho4 hd4 hb4 hg4 HSH
      obtain ⟨g, hgm⟩ : ∃ g, g = m % 1000000000 := ⟨_, rfl⟩
      rw [← hgm]
      have HGM := Lib.hid hgm
      clear hgm
      go_wp2_with fail
      have hg9 : g < 1000000000 := by rw [HGM.out]; omega
      go_loopw [3, 5, 23] (fun d gr i wr => PrIn w (.slice a1 qs.length cap1) (M.dg (9 * j) n) qs (9 * j) g w3.heap.size d gr i wr) (fun _ _ i _ => 9 - (intOf i).toNat)
      case atStart => exact ⟨0, g, a2, cap2, rfl, by omega, rfl, by simp, hg9, rfl, by simpa [M.dg] using HD4.out, HO4.out, HB4.out, hB4⟩
      case round =>
        obtain ⟨k, gk, a3, cap3, rfl, hk, rfl, hgk, hgk9, rfl, hd, ho, hbW, hBd2⟩ := hrel
        have HGK := Lib.hid hgk
        have HD := Lib.hid hd
        have HO := Lib.hid ho
        have HBW := Lib.hid hbW
        have hcl : (M.dg (9 * j) n ++ M.dg k g).length = 9 * j + k := by rw [List.length_append, M.dg_len, M.dg_len]
        have HCL := Lib.hid hcl
        clear hgk hd ho hbW hcl HD4 HO4 HB4
        by_cases hlt : k < 9
        · go_wp2_with (at_builtin; refine wpList_appB rfl _ _ rfl (48 + gk % 10) rfl (HD.out.alloc _) rfl (cell_new _ _ _) (by omega) (by rw [HCL.out]; omega) (by simp; omega) ?_; intro a' cap' W' hown' hgr')
          go_roundw
          case rel =>
            obtain ⟨p1, p2, p3⟩ := pr_app HO.out (fun x e => HG.out x ((ownBlock_len _ _ _ _ _).trans e)) HD.out hgr' hBd2 hN HBW.out
            refine ⟨k + 1, gk / 10, a', cap', by go_num, by omega, by go_num, by rw [HGK.out, Nat.div_div_eq_div_mul, Nat.pow_succ], by omega, by rw [M.dg_len, M.dg_len, Nat.add_assoc], ?_, p1, p2, p3⟩
            rw [M.dg_snoc, ← List.append_assoc, ← HGK.out]
            have : (M.dg (9 * j) n ++ M.dg k g ++ [48 + gk % 10]).length = 9 * j + (k + 1) := by rw [List.length_append, HCL.out]; rfl
            rw [this] at hown'
            exact hown'
          case measure => simp [intOf]; omega
        · have hk9 : k = 9 := by omega
          have hd9 := HD.out
          rw [hk9, HGM.out, show (1000000000 : Nat) = 10 ^ 9 from rfl, M.dg_mod, HM.out, ← M.dg_add, show 9 * j + 9 = 9 * (j + 1) from by omega] at hd9
          have htr := trim_any a1 qs cap1 wr HO.out.rowAt
          have hot := HO.out.trimmed
          have hcutb := ownBlock_cut (c := cap1) (ts := M.dig (m / 1000000000)) HG.out
          rw [HTR.out] at htr hot
          rw [HQ.out] at htr
          obtain ⟨a5, cap5, hcut⟩ := cut_slice a1 cap1 (M.dig (m / 1000000000))
          rw [hcut] at htr hot hcutb
          have hmn : m / 1000000000 = n / 10 ^ (9 * (j + 1)) := by rw [HM.out, Nat.div_div_eq_div_mul, show 9 * (j + 1) = 9 * j + 9 from by omega, Nat.pow_add]
          have hsh := dig_shorter h0m
          have HMN := Lib.hid hmn
          have HT := Lib.hid htr
          have HOT := Lib.hid hot
          have HCB := Lib.hid hcutb
          have HD9 := Lib.hid hd9
          have HK9 := Lib.hid hk9
          clear htr hot hcutb hd9 hk9 hcut hmn HD HO
          go_wp2_with (go_at_call 48; refine HT.out.mono ?_; rintro e w6 ⟨rfl, hb6⟩)
          go_roundw
          case rel =>
            refine ⟨j + 1, a5, cap5, a3, cap3, by rw [← HMN.out], by rw [← HMN.out]; exact HOT.out.below hb6, by rw [← HMN.out]; exact HCB.out, by rw [HK9.out]; rfl, HD9.out.below hb6, by rw [← HMN.out]; omega, HBW.out.trans (hb6.mono HBW.out.size), Nat.le_trans hBd2 hb6.size⟩
          case measure => exact hsh
    · have hm0 : m = 0 := by omega
      have hnk : n < 10 ^ (9 * j) := by
        have := HM.out
        rw [hm0] at this
        exact Nat.lt_of_div_eq_zero (Nat.pow_pos (by omega)) this.symm
      have hj0 : 0 < j := by
        rcases Nat.eq_zero_or_pos j with h | h
        · rw [h] at hnk; simp at hnk; omega
        · exact h
      subst hm0
      rw [M.dig_zero]
      have hdl := M.dg_len (9 * j) n
      obtain ⟨g, rfl, hgB, hgW, h3, h4, hcells⟩ := HD.out.parts (by rw [hdl]; omega)
      have hrev := reverse_any g cap2 (M.dg (9 * j) n) wr (by rw [hdl]; omega) hcells
      rw [hdl] at hrev
      have HNK := Lib.hid hnk
      have HRV := Lib.hid hrev
      have HDL := Lib.hid hdl
      clear hnk hrev hdl hcells ho h0m HO HG
      obtain ⟨S, hS⟩ : ∃ S, S = strOfNums ((M.dg (9 * j) n).reverse.map fun (b : Nat) => (b : Int)) := ⟨_, rfl⟩
      have hSs : S.size ≤ 9223372036854775807 := by rw [hS, strOfNums_size, List.length_map, List.length_reverse, HDL.out]; omega
      have HSS := Lib.hid hS
      clear hS
      go_wp2_with (first | (go_at_call 50; refine HRV.out.mono ?_; rintro e w6 ⟨rfl, hrp⟩; have hcv := pr_conv hrp HDL.out; rw [← HSS.out] at hcv; have HRP := Lib.hid hrp; clear hrp) | (go_at_call 51; refine (trimLeft_zero S _ hSs).mono ?_; rintro e w7 ⟨rfl, rfl⟩))
      go_ret
      refine ⟨⟨9 * j, HNK.out, ?_⟩, HBW.out.trans (HRP.out.below _ (by omega) HBW.out.size)⟩
      rw [HSS.out, strOfNums_data, drop_bytes _ (fun b hb => by have := M.dg_byte _ _ b (List.mem_reverse.1 hb); omega)]
      rfl
end Go.Proofs.YtmejneobfkbgeaaGreatDoor

namespace Go.Proofs.YtmejneobfkbgeaaGreatDoor
open Go Go.RowKit Go.Shelf

theorem prPost_at {n K : Nat} {e : Ending} (h : PrPost n e) (hK : n < 10 ^ K) : e = .returned (.string ⟨((M.decs K n).map UInt8.ofNat).toArray⟩) := by
  obtain ⟨k, hk, rfl⟩ := h
  rw [M.decs_any hk hK]

theorem dig_two (n : Nat) (h1 : 16777216 ≤ n) (h2 : n < 281474976710656) : (M.dig n).length = 2 := by
  rw [M.dig_pos (by omega), M.dig_pos (n := n / 16777216) (by omega), show n / 16777216 / 16777216 = 0 by omega, M.dig_zero]; rfl

theorem small_len {n : Nat} (h : n < 16777216 ^ 3) : (M.dig n).length ≤ 200 := Nat.le_trans (M.dig_len_le.2 h) (by omega)
theorem decs15 : (M.decs 15 281474976710656).map UInt8.ofNat = [50, 56, 49, 52, 55, 52, 57, 55, 54, 55, 49, 48, 54, 53, 54] := by decide
theorem decs2 : (M.decs 2 10).map UInt8.ofNat = [49, 48] := by decide

set_option maxRecDepth 100000 in
theorem print_big {a : Option Addr} {cap : Nat} {w : World} (hR : Row w a (M.dig 281474976710656) cap) :
    Calls Tryz.prog 19 #[.agg #[.slice a (M.dig 281474976710656).length cap]] w fun e W' => e = .returned (.string ⟨#[50, 56, 49, 52, 55, 52, 57, 55, 54, 55, 49, 48, 54, 53, 54]⟩) ∧ Below w.heap.size w W' :=
  (print_pos a cap 281474976710656 w (by omega) (small_len (by decide)) hR).mono fun _ _ h => ⟨(prPost_at (K := 15) h.1 (by decide)).trans (by rw [decs15]), h.2⟩

set_option maxRecDepth 100000 in
theorem print_ten {a : Option Addr} {cap : Nat} {w : World} (hR : Row w a (M.dig 10) cap) :
    Calls Tryz.prog 19 #[.agg #[.slice a (M.dig 10).length cap]] w fun e W' => e = .returned (.string ⟨#[49, 48]⟩) ∧ Below w.heap.size w W' :=
  (print_pos a cap 10 w (by omega) (small_len (by decide)) hR).mono fun _ _ h => ⟨(prPost_at (K := 2) h.1 (by decide)).trans (by rw [decs2]), h.2⟩

end Go.Proofs.YtmejneobfkbgeaaGreatDoor

namespace Go.Proofs.YtmejneobfkbgeaaGreatDoor
open Go Go.RowKit Go.Shelf

def lenRen : Go.Shelf.Ren := ⟨fun | 125 => 141 | 128 => 154 | 129 => 155 | n => n, fun | 46 => 70 | 3 => 3 | 51 => 156 | 53 => 158 | 4 => 4 | 5 => 5 | 9 => 9 | n => n, fun | n => n⟩
theorem lenLays : Go.Proofs.Lays.n125 Tryz.prog lenRen := {
  mixed := by kernel_rfl
  f125 := Tryz.func141.trans (congrArg some (by kernel_rfl))
  f128 := Tryz.func154.trans (congrArg some (by kernel_rfl))
  f129 := Tryz.func155.trans (congrArg some (by kernel_rfl))
  t3 := Tryz.underlying3
  a3 := Tryz.isAgg3
  z3 := Tryz.sizeOf3
  v3 := Tryz.zeroValue3
  t4 := Tryz.underlying4
  a4 := Tryz.isAgg4
  z4 := Tryz.sizeOf4
  v4 := Tryz.zeroValue4
  t5 := Tryz.underlying5
  a5 := Tryz.isAgg5
  z5 := Tryz.sizeOf5
  v5 := Tryz.zeroValue5
  t9 := Tryz.underlying9
  a9 := Tryz.isAgg9
  z9 := Tryz.sizeOf9
  v9 := Tryz.zeroValue9
  t46 := Tryz.underlying70
  a46 := Tryz.isAgg70
  z46 := Tryz.sizeOf70
  v46 := Tryz.zeroValue70
  t51 := Tryz.underlying156
  a51 := Tryz.isAgg156
  z51 := Tryz.sizeOf156
  v51 := Tryz.zeroValue156
  t53 := Tryz.underlying158
  a53 := Tryz.isAgg158
  z53 := Tryz.sizeOf158
  v53 := Tryz.zeroValue158 }
theorem bitsLen_any (x : Int) (w : World) (h0 : 0 ≤ x) (h1 : x ≤ 18446744073709551615) :
    Calls Tryz.prog 141 #[.int .u64 x] w fun e w' => e = .returned (.int .i64 (Lib.bitLen x.toNat)) ∧ w' = w := Any.bits_Len lenLays x w h0 h1
def cmpRen : Go.Shelf.Ren := ⟨fun | 122 => 156 | 215 => 162 | n => n, fun | 3 => 3 | 4 => 4 | n => n, fun | n => n⟩
theorem cmpLays : Go.Proofs.Lays.n122 Tryz.prog cmpRen := {
  mixed := by kernel_rfl
  f122 := Tryz.func156.trans (congrArg some (by kernel_rfl))
  f215 := Tryz.func162.trans (congrArg some (by kernel_rfl))
  t3 := Tryz.underlying3
  a3 := Tryz.isAgg3
  z3 := Tryz.sizeOf3
  v3 := Tryz.zeroValue3
  t4 := Tryz.underlying4
  a4 := Tryz.isAgg4
  z4 := Tryz.sizeOf4
  v4 := Tryz.zeroValue4 }
theorem compare_any (x y : Int) (w : World) :
    Calls Tryz.prog 156 #[.int .i64 x, .int .i64 y] w fun e w' => e = .returned (.int .i64 (Lib.compareInt x y)) ∧ w' = w := Any.cmp_Compare_int cmpLays x y w
end Go.Proofs.YtmejneobfkbgeaaGreatDoor

namespace Go.Proofs.YtmejneobfkbgeaaGreatDoor
open Go Go.RowKit Go.Shelf

theorem lt_bitLen (n : Nat) (h : n < 2 ^ 64) : n < 2 ^ Lib.bitLen n := by
  induction n using Nat.strongRecOn with
  | ind n ih =>
    by_cases e : n = 0
    · subst e; decide
    · rw [Lib.bitLen_half n e h, Nat.add_comm, Nat.pow_succ]
      have := ih (n / 2) (by omega) (by omega)
      omega
theorem bitLen_le (k : Nat) : ∀ n : Nat, n < 2 ^ k → k ≤ 64 → Lib.bitLen n ≤ k := by
  induction k with
  | zero => intro n h _; rw [show n = 0 by omega]; decide
  | succ k ih =>
    intro n h hk
    by_cases e : n = 0
    · subst e; exact Nat.zero_le _
    · rw [Lib.bitLen_half n e (Nat.lt_of_lt_of_le h (Nat.pow_le_pow_right (by omega) hk))]
      have := ih (n / 2) (by rw [Nat.pow_succ] at h; omega) (by omega)
      omega

/-- The world behind a box and a result's cell. -/
def boxes1 (w : World) (u : Value) : World := (w.alloc (.cells #[u] 41)).alloc (.cells #[.slice none 0 0] 41)
theorem boxes1_size (w : World) (u : Value) : (boxes1 w u).heap.size = w.heap.size + 2 := by simp [boxes1]
theorem boxes1_below (w : World) (u : Value) : Below w.heap.size w (boxes1 w u) := ((Below.refl _ w).alloc (Nat.le_refl _) _).alloc (by simp) _
theorem boxes1_cells (w : World) (u : Value) : (boxes1 w u).cell? ⟨w.heap.size, 0, none⟩ = some u ∧ (boxes1 w u).cell? ⟨w.heap.size + 1, 0, none⟩ = some (.slice none 0 0) ∧ (boxes1 w u).frozen? ⟨w.heap.size + 1, 0, none⟩ = false := by
  have h0 := cell_new w u 41
  have h1 := cell_of_new (w.alloc (.cells #[u] 41)) (.slice none 0 0) 41
  simp only [World.size_alloc] at h1
  exact ⟨cell_later _ h0, h1.1, h1.2⟩

/-- A store into a cell that holds a slice leaves numbers as they are. -/
theorem Row.store {w : World} {a : Option Addr} {zs : List Int} {cap : Nat} (h : Row w a zs cap) {p : Addr} {s : Option Addr} {n c : Nat} (hp : w.cell? p = some (.slice s n c)) (u : Value) : Row (w.setCell p u) a zs cap :=
  ⟨h.room, h.most, fun j hj => by
    obtain ⟨b, off, e, hc⟩ := h.el j hj
    exact ⟨b, off, e, (World.cell?_setCell_other _ _ _ _ (by rintro rfl; rw [hp] at hc; cases hc)).trans hc⟩⟩

theorem pow_step {n L k : Nat} (h : k < L) : n / 2 ^ (L - (k + 1)) = 2 * (n / 2 ^ (L - k)) + n / 2 ^ (L - (k + 1)) % 2 := by
  have e : L - k = (L - (k + 1)) + 1 := by omega
  rw [e, Nat.pow_succ, ← Nat.div_div_eq_div_mul]; omega
theorem pow_sq (x m : Nat) : x ^ m * x ^ m = x ^ (2 * m) := by rw [← Nat.pow_add]; congr 1; omega
theorem pow_long {x m n : Nat} (h : m ≤ n) (hl : ¬ (M.dig (x ^ m)).length ≤ 200) : ¬ (M.dig (x ^ n)).length ≤ 200 := by
  rw [M.dig_len_le] at hl ⊢
  have : x ^ m ≤ x ^ n := by
    rcases Nat.eq_zero_or_pos x with h0 | h0
    · subst h0
      exfalso
      apply hl
      rcases Nat.eq_zero_or_pos m with h1 | h1
      · subst h1; exact Nat.one_lt_pow (by omega) (by omega)
      · rw [Nat.zero_pow h1]; exact Nat.pow_pos (by omega)
    · exact Nat.pow_le_pow_right h0 h
  omega

theorem mask1 (x : Int) : bits BinOp.and IntKind.i64 x 1 = x % 2 := by
  show IntKind.i64.wrap ((BitVec.ofInt 64 x &&& BitVec.ofInt 64 1).toNat : Int) = _
  have h1 := toNat_ofInt64 x
  have h2 : (BitVec.ofInt 64 1).toNat = 2 ^ 1 - 1 := by decide
  rw [BitVec.toNat_and, h2, Nat.and_two_pow_sub_one_eq_mod, IntKind.wrap_i64]
  omega
theorem shr_n {n L k m2 : Nat} (h : m2 = n / 2 ^ (L - (k + 1))) : (n : Int) / 2 ^ (L - 1 - k) = (m2 : Int) := by
  rw [h, show L - (k + 1) = L - 1 - k by omega, Int.natCast_ediv, Int.natCast_pow]; rfl

/-- What holds in Power's loop. -/
def PwRel (_w wA : World) (x n L P : Nat) (i : Value) (W : World) : Prop :=
  ∃ (k : Nat) (a : Option Addr) (cap : Nat), i = .int .i64 (k : Int) ∧ k ≤ L ∧ W.cell? ⟨P, 0, none⟩ = some (.slice a (M.dig (x ^ (n / 2 ^ (L - k)))).length cap) ∧ W.frozen? ⟨P, 0, none⟩ = false ∧ Row W a (M.dig (x ^ (n / 2 ^ (L - k)))) cap ∧ (M.dig (x ^ (n / 2 ^ (L - k)))).length ≤ 200 ∧ P < W.heap.size ∧ Below P wA W

attribute [local go_sem] mask1
set_option maxRecDepth 100000 in
set_option maxHeartbeats 2000000 in
theorem power_any (a : Option Addr) (cap x n : Nat) (w : World) (hx : (M.dig x).length ≤ 200) (hn : n ≤ 4800) (hR : Row w a (M.dig x) cap) :
    Calls Tryz.prog 104 #[.agg #[.slice a (M.dig x).length cap], .int .i64 (n : Int)] w fun e W' => NatRes (x ^ n) e W' ∧ Below w.heap.size w W' := by
  have Hv := Lib.hid (vld_dig hx)
  have hB2 := boxes1_below w (.slice a (M.dig x).length cap)
  have hs2 := boxes1_size w (.slice a (M.dig x).length cap)
  have HC := Lib.hid (boxes1_cells w (.slice a (M.dig x).length cap))
  have HR := Lib.hid (hR.below hB2)
  have HB2 := Lib.hid hB2
  have HS2 := Lib.hid hs2
  have hra := hR.room
  have hma := hR.most
  have HL := Lib.hid (lt_bitLen n (by omega))
  have HLL := Lib.hid (bitLen_le 13 n (by omega) (by omega))
  have hlen := bitsLen_any (n : Int)
  clear hR hB2 hs2
  rw [Int.toNat_natCast] at hlen
  generalize Lib.bitLen n = L at *
  have HLEN := Lib.hid hlen
  clear hlen
  have d1 : decide ((n : Int) < 0) = false := by simp
  have d2 : decide ((4800 : Int) < (n : Int)) = false := by simp; omega
  go_enter Tryz.func104, Tryz.ntmps104
  go_wp2_with fail
  generalize hw2 : ((w.alloc (.cells #[.slice a (M.dig x).length cap] 41)).alloc (.cells #[.slice none 0 0] 41)) = w2
  obtain rfl : boxes1 w (.slice a (M.dig x).length cap) = w2 := hw2
  generalize boxes1 w (.slice a (M.dig x).length cap) = w2 at *
  refine (valid_yes a _ cap _ HR.out Hv.out).mono ?_
  rintro e w3 ⟨rfl, hb3⟩
  have hs3 := hb3.size
  have HB3 := Lib.hid hb3
  clear hb3
  go_wp2_with (go_at_call 141; refine (HLEN.out _ (by omega) (by omega)).mono ?_; rintro e w' ⟨rfl, rfl⟩)
  have hown1 := own_one w3 w3.heap.size (Nat.le_refl _)
  have hcP := cell_of_new (w3.alloc (.cells #[.int .i64 1] 3)) (.slice (some ⟨w3.heap.size, 0, none⟩) 1 1) 41
  simp only [World.size_alloc] at hcP
  have hrow1 := (hown1.alloc (.cells #[.slice (some ⟨w3.heap.size, 0, none⟩) 1 1] 41))
  have hwA : ((w3.alloc (.cells #[.int .i64 1] 3)).alloc (.cells #[.slice (some ⟨w3.heap.size, 0, none⟩) 1 1] 41)).heap.size = w3.heap.size + 2 := by simp
  have hBA : Below w3.heap.size w3 ((w3.alloc (.cells #[.int .i64 1] 3)).alloc (.cells #[.slice (some ⟨w3.heap.size, 0, none⟩) 1 1] 41)) := ((Below.refl _ w3).alloc (Nat.le_refl _) _).alloc (by simp) _
  generalize ((w3.alloc (.cells #[.int .i64 1] 3)).alloc (.cells #[.slice (some ⟨w3.heap.size, 0, none⟩) 1 1] 41)) = wA at *
  have h0L : n / 2 ^ (L - 0) = 0 := Nat.div_eq_of_lt HL.out
  go_loopw [27] (fun i wr => PwRel w wA x n L (w3.heap.size + 1) i wr) (fun i _ => L - (intOf i).toNat)
  case atStart =>
    refine ⟨0, some ⟨w3.heap.size, 0, none⟩, 1, rfl, Nat.zero_le _, ?_, hcP.2, ?_, ?_, by omega, Below.refl _ _⟩
    · rw [h0L, Nat.pow_zero, dig_one]; exact hcP.1
    · rw [h0L, Nat.pow_zero, dig_one]; exact Own.rowAt (B := w3.heap.size) hrow1
    · rw [h0L, Nat.pow_zero, dig_one]; simp
  case round =>
    obtain ⟨k, a1, cap1, rfl, hk, hcp, hfp, hr1, hl1, hP, hbW⟩ := hrel
    have hN3 : w.heap.size + 1 < w3.heap.size := by have := HS2.out; omega
    have c2 := (hbW.cell (p := ⟨w.heap.size, 0, none⟩) (by simp; omega)).trans ((hBA.cell (p := ⟨w.heap.size, 0, none⟩) (by simp; omega)).trans ((HB3.out.cell (p := ⟨w.heap.size, 0, none⟩) (lt_of_cell HC.out.1)).trans HC.out.1))
    have c4 := (hbW.cell (p := ⟨w.heap.size + 1, 0, none⟩) (by simp; omega)).trans ((hBA.cell (p := ⟨w.heap.size + 1, 0, none⟩) (by simp; omega)).trans ((HB3.out.cell (p := ⟨w.heap.size + 1, 0, none⟩) (lt_of_cell HC.out.2.1)).trans HC.out.2.1))
    have f4 := (hbW.frozen (p := ⟨w.heap.size + 1, 0, none⟩) (by simp; omega)).trans ((hBA.frozen (p := ⟨w.heap.size + 1, 0, none⟩) (by simp; omega)).trans ((HB3.out.frozen (p := ⟨w.heap.size + 1, 0, none⟩) (lt_of_cell HC.out.2.1)).trans HC.out.2.2))
    have HBW := Lib.hid hbW
    have HR1 := Lib.hid hr1
    clear hbW hr1
    by_cases hlt : k < L
    · have hst := pow_step (n := n) hlt
      have hle := Nat.div_le_self n (2 ^ (L - (k + 1)))
      obtain ⟨m, hm⟩ : ∃ m, m = n / 2 ^ (L - k) := ⟨_, rfl⟩
      rw [← hm] at hst hcp hl1
      have HR1' := Lib.hid (show Row wr a1 (M.dig (x ^ m)) cap1 from by rw [hm]; exact HR1.out)
      have hmul := mul_any a1 a1 cap1 cap1 (x ^ m) (x ^ m) wr hl1 hl1 HR1'.out HR1'.out
      rw [pow_sq] at hmul
      have HM := Lib.hid hmul
      have HST := Lib.hid hst
      have hmn : 2 * m ≤ n := by omega
      obtain ⟨m2, hm2⟩ : ∃ m2, m2 = n / 2 ^ (L - (k + 1)) := ⟨_, rfl⟩
      have HM2 := Lib.hid hm2
      have HSH := Lib.hid (shr_n hm2)
      clear hmul hst hm HR1 hm2 hle
      go_wp2_with fail
      refine HM.out.mono ?_
      rintro e w5 ⟨hres, hb5⟩
      have c2' := (hb5.cell (p := ⟨w.heap.size, 0, none⟩) (lt_of_cell c2)).trans c2
      have c4' := (hb5.cell (p := ⟨w.heap.size + 1, 0, none⟩) (lt_of_cell c4)).trans c4
      have f4' := (hb5.frozen (p := ⟨w.heap.size + 1, 0, none⟩) (lt_of_cell c4)).trans f4
      have cp' := (hb5.cell (p := ⟨w3.heap.size + 1, 0, none⟩) (lt_of_cell hcp)).trans hcp
      have fp' := (hb5.frozen (p := ⟨w3.heap.size + 1, 0, none⟩) (lt_of_cell hcp)).trans hfp
      have HB5 := Lib.hid hb5
      clear hb5 c2 c4 f4 hcp hfp HM
      by_cases hlong : (M.dig (x ^ (2 * m))).length ≤ 200
      · obtain ⟨v, rfl, a5, cap5, rfl, hr5⟩ := hres.ok hlong
        have HR5 := Lib.hid hr5
        clear hr5 hres
        have hL13 := HLL.out
        have hb2 : m2 = 2 * m + m2 % 2 := by have := HST.out; rw [← HM2.out] at this; exact this
        by_cases hbit : m2 % 2 = 0
        · have hbt : ((n : Int) / 2 ^ (L - 1 - k) % 2 == 0) = true := by rw [HSH.out, beq_iff_eq]; omega
          have HE := Lib.hid (show m2 = 2 * m by omega)
          clear hb2 hbit
          go_wp2_with fail
          go_roundw
          case rel =>
            refine ⟨k + 1, a5, cap5, by go_num, by omega, ?_, ?_, ?_, ?_, ?_, ?_⟩
            · rw [← HM2.out, HE.out]; exact World.cell?_setCell_same' _ _ _ (by rw [cp']; rfl)
            · rw [World.frozen?_setCell]; exact fp'
            · rw [← HM2.out, HE.out]; exact HR5.out.store cp' _
            · rw [← HM2.out, HE.out]; exact hlong
            · simp [World.setCell]; have := lt_of_cell cp'; simpa using this
            · exact (HBW.out.trans (HB5.out.mono (by omega))).setCell (p := ⟨w3.heap.size + 1, 0, none⟩) (Nat.le_refl _) _
          case measure => simp [intOf]; omega
        · have hbt : ((n : Int) / 2 ^ (L - 1 - k) % 2 == 0) = false := by rw [HSH.out, beq_eq_false_iff_ne]; omega
          have HE := Lib.hid (show m2 = 2 * m + 1 by omega)
          have hm2n : m2 ≤ n := by rw [HM2.out]; exact Nat.div_le_self _ _
          clear hb2 hbit
          have HRX := Lib.hid ((HR.out.below HB3.out).below (hBA.trans ((HBW.out.trans (HB5.out.mono (by omega))).mono (by omega))))
          have hmul2 := mul_any a5 a cap5 cap (x ^ (2 * m)) x (w5.setCell ⟨w3.heap.size + 1, 0, none⟩ (.slice a5 (M.dig (x ^ (2 * m))).length cap5)) hlong hx (HR5.out.store cp' _) (HRX.out.store cp' _)
          rw [show x ^ (2 * m) * x = x ^ m2 from by rw [HE.out, Nat.pow_succ]] at hmul2
          have HM2' := Lib.hid hmul2
          clear hmul2
          have hs6 : (w5.setCell ⟨w3.heap.size + 1, 0, none⟩ (.slice a5 (M.dig (x ^ (2 * m))).length cap5)).heap.size = w5.heap.size := by simp [World.setCell]
          have b2 := (cell_other (W := w5) (p := ⟨w3.heap.size + 1, 0, none⟩) (a := ⟨w.heap.size, 0, none⟩) (.slice a5 (M.dig (x ^ (2 * m))).length cap5) (by simp; omega)).trans c2'
          have b4 := (cell_other (W := w5) (p := ⟨w3.heap.size + 1, 0, none⟩) (a := ⟨w.heap.size + 1, 0, none⟩) (.slice a5 (M.dig (x ^ (2 * m))).length cap5) (by simp; omega)).trans c4'
          have g4 := (World.frozen?_setCell w5 ⟨w3.heap.size + 1, 0, none⟩ ⟨w.heap.size + 1, 0, none⟩ (.slice a5 (M.dig (x ^ (2 * m))).length cap5)).trans f4'
          have bP := World.cell?_setCell_same' w5 ⟨w3.heap.size + 1, 0, none⟩ (.slice a5 (M.dig (x ^ (2 * m))).length cap5) (by rw [cp']; rfl)
          have gP := (World.frozen?_setCell w5 ⟨w3.heap.size + 1, 0, none⟩ ⟨w3.heap.size + 1, 0, none⟩ (.slice a5 (M.dig (x ^ (2 * m))).length cap5)).trans fp'
          have HB6 := Lib.hid ((HBW.out.trans (HB5.out.mono (by omega))).setCell (p := ⟨w3.heap.size + 1, 0, none⟩) (Nat.le_refl _) (.slice a5 (M.dig (x ^ (2 * m))).length cap5))
          go_wp2_with fail
          clear c2' c4' f4' cp' fp'
          generalize (w5.setCell ⟨w3.heap.size + 1, 0, none⟩ (.slice a5 (M.dig (x ^ (2 * m))).length cap5)) = w6 at *
          refine HM2'.out.mono ?_
          rintro e w7 ⟨hres, hb7⟩
          have e2 := (hb7.cell (p := ⟨w.heap.size, 0, none⟩) (lt_of_cell b2)).trans b2
          have e4 := (hb7.cell (p := ⟨w.heap.size + 1, 0, none⟩) (lt_of_cell b4)).trans b4
          have k4 := (hb7.frozen (p := ⟨w.heap.size + 1, 0, none⟩) (lt_of_cell b4)).trans g4
          have eP := (hb7.cell (p := ⟨w3.heap.size + 1, 0, none⟩) (lt_of_cell bP)).trans bP
          have kP := (hb7.frozen (p := ⟨w3.heap.size + 1, 0, none⟩) (lt_of_cell bP)).trans gP
          have HB7 := Lib.hid (HB6.out.trans (hb7.mono (Nat.le_of_lt (lt_of_cell bP))))
          clear hb7 b2 b4 g4 bP gP HM2'
          by_cases hl7 : (M.dig (x ^ m2)).length ≤ 200
          · obtain ⟨v, rfl, a7, cap7, rfl, hr7⟩ := hres.ok hl7
            have HR7 := Lib.hid hr7
            clear hr7 hres
            go_wp2_with fail
            go_roundw
            case rel =>
              refine ⟨k + 1, a7, cap7, by go_num, by omega, ?_, ?_, ?_, ?_, ?_, ?_⟩
              · rw [← HM2.out]; exact World.cell?_setCell_same' _ _ _ (by rw [eP]; rfl)
              · rw [World.frozen?_setCell]; exact kP
              · rw [← HM2.out]; exact HR7.out.store eP _
              · rw [← HM2.out]; exact hl7
              · simp [World.setCell]; have := lt_of_cell eP; simpa using this
              · exact HB7.out.setCell (p := ⟨w3.heap.size + 1, 0, none⟩) (Nat.le_refl _) _
            case measure => simp [intOf]; omega
          · obtain rfl := hres.limit hl7
            have HLO := Lib.hid (pow_long hm2n hl7)
            clear hres
            go_wp2_with fail
            have m4 := (cell_other (W := w7) (p := ⟨w3.heap.size + 1, 0, none⟩) (a := ⟨w.heap.size + 1, 0, none⟩) (.slice none 0 0) (by simp; omega)).trans e4
            refine bodyPost_ret (v := .tuple #[.agg #[.slice none 0 0], .int .i64 3]) (by simp [results, Tryz.results104, go_sem, m4]) rfl ⟨natRes_limit HLO.out, ?_⟩
            exact ((((HB2.out.trans (HB3.out.mono HB2.out.size)).trans (hBA.mono (by omega))).trans (HB7.out.mono (by omega))).setCell (p := ⟨w3.heap.size + 1, 0, none⟩) (by simp; omega) _).setCell (p := ⟨w.heap.size + 1, 0, none⟩) (by simp) _
      · obtain rfl := hres.limit hlong
        have HLO := Lib.hid (pow_long hmn hlong)
        clear hres
        go_wp2_with fail
        have m4 := (cell_other (W := w5) (p := ⟨w3.heap.size + 1, 0, none⟩) (a := ⟨w.heap.size + 1, 0, none⟩) (.slice none 0 0) (by simp; omega)).trans c4'
        refine bodyPost_ret (v := .tuple #[.agg #[.slice none 0 0], .int .i64 3]) (by simp [results, Tryz.results104, go_sem, m4]) rfl ⟨natRes_limit HLO.out, ?_⟩
        exact ((((HB2.out.trans (HB3.out.mono HB2.out.size)).trans (hBA.mono (by omega))).trans ((HBW.out.trans (HB5.out.mono (by omega))).mono (by omega))).setCell (p := ⟨w3.heap.size + 1, 0, none⟩) (by simp; omega) _).setCell (p := ⟨w.heap.size + 1, 0, none⟩) (by simp) _
    · have hkL : k = L := by omega
      have e0 : n / 2 ^ (L - k) = n := by rw [hkL, Nat.sub_self, Nat.pow_zero, Nat.div_one]
      rw [e0] at hcp hl1
      have hr1 := HR1.out
      rw [e0] at hr1
      have HRE := Lib.hid hr1
      clear HR1 hr1 e0 hkL
      go_wp2_with fail
      refine bodyPost_ret (v := .tuple #[.agg #[.slice a1 (M.dig (x ^ n)).length cap1], .int .i64 0]) (by simp [results, Tryz.results104, go_sem, c4]) rfl ⟨natRes_ok hl1 ⟨a1, cap1, rfl, HRE.out.store c4 _⟩, ?_⟩
      exact (((HB2.out.trans (HB3.out.mono HB2.out.size)).trans (hBA.mono (by omega))).trans (HBW.out.mono (by omega))).setCell (p := ⟨w.heap.size + 1, 0, none⟩) (by simp) _

/-- **nat.Power** of a number. -/
theorem power_num {u : Value} {x n : Nat} {w : World} (hx : (M.dig x).length ≤ 200) (hn : n ≤ 4800) (hu : Num w u x) :
    Calls Tryz.prog 104 #[u, .int .i64 (n : Int)] w fun e W' => NatRes (x ^ n) e W' ∧ Below w.heap.size w W' := by
  obtain ⟨a, cap, rfl, hr⟩ := hu
  exact power_any a cap x n w hx hn hr
end Go.Proofs.YtmejneobfkbgeaaGreatDoor

namespace Go.Proofs.YtmejneobfkbgeaaGreatDoor
open Go Go.RowKit Go.Shelf

/-- The world behind two boxes. -/
def boxes2 (w : World) (u v : Value) : World := (w.alloc (.cells #[u] 41)).alloc (.cells #[v] 41)
theorem boxes2_size (w : World) (u v : Value) : (boxes2 w u v).heap.size = w.heap.size + 2 := by simp [boxes2]
theorem boxes2_below (w : World) (u v : Value) : Below w.heap.size w (boxes2 w u v) := ((Below.refl _ w).alloc (Nat.le_refl _) _).alloc (by simp) _
theorem boxes2_cells (w : World) (u v : Value) : (boxes2 w u v).cell? ⟨w.heap.size, 0, none⟩ = some u ∧ (boxes2 w u v).cell? ⟨w.heap.size + 1, 0, none⟩ = some v := by
  have h0 := cell_new w u 41
  have h1 := cell_new (w.alloc (.cells #[u] 41)) v 41
  simp only [World.size_alloc] at h1
  exact ⟨cell_later _ h0, h1⟩

set_option maxRecDepth 100000 in
set_option maxHeartbeats 1000000 in
/-- **ref01.Same** at equal limbs. -/
theorem same_any (a b : Option Addr) (zs : List Int) (ca cb : Nat) (w : World) (ha : Row w a zs ca) (hb : Row w b zs cb) :
    Calls Tryz.prog 15 #[.agg #[.slice a zs.length ca], .agg #[.slice b zs.length cb]] w fun e W' => e = .returned (.bool true) ∧ Below w.heap.size w W' := by
  have hB := boxes2_below w (.slice a zs.length ca) (.slice b zs.length cb)
  have HC := Lib.hid (boxes2_cells w (.slice a zs.length ca) (.slice b zs.length cb))
  have HA := Lib.hid (ha.below hB)
  have HB := Lib.hid (hb.below hB)
  have HBB := Lib.hid hB
  have hra := ha.room
  have hrb := hb.room
  have hma := ha.most
  have hmb := hb.most
  clear ha hb hB
  go_enter Tryz.func15, Tryz.ntmps15
  go_wp2_with fail
  generalize hw2 : ((w.alloc (.cells #[.slice a zs.length ca] 41)).alloc (.cells #[.slice b zs.length cb] 41)) = w2
  obtain rfl : boxes2 w (.slice a zs.length ca) (.slice b zs.length cb) = w2 := hw2
  generalize boxes2 w (.slice a zs.length ca) (.slice b zs.length cb) = w2 at *
  go_loopw [5] (fun i wr => ∃ k : Nat, i = .int .i64 (k : Int) ∧ k ≤ zs.length ∧ Below w2.heap.size w2 wr) (fun i _ => zs.length - (intOf i).toNat)
  case atStart => exact ⟨0, rfl, Nat.zero_le _, Below.refl _ _⟩
  case round =>
    obtain ⟨k, rfl, hk, hbw⟩ := hrel
    have c0 : wr.cell? ⟨w.heap.size, 0, none⟩ = some (.slice a zs.length ca) := (hbw.cell (p := ⟨w.heap.size, 0, none⟩) (lt_of_cell HC.out.1)).trans HC.out.1
    have c1 : wr.cell? ⟨w.heap.size + 1, 0, none⟩ = some (.slice b zs.length cb) := (hbw.cell (p := ⟨w.heap.size + 1, 0, none⟩) (lt_of_cell HC.out.2)).trans HC.out.2
    have HBW := Lib.hid hbw
    clear hbw
    by_cases hlt : k < zs.length
    · obtain ⟨b1, o1, rfl, h1⟩ := (HA.out.below HBW.out).el k hlt
      obtain ⟨b2, o2, rfl, h2⟩ := (HB.out.below HBW.out).el k hlt
      go_wp2_with fail
      go_quiet (fail)
      go_wp2
      go_roundw
      case rel => exact ⟨k + 1, by go_num, by omega, belowN HBW.out _⟩
      case measure => simp [intOf]; omega
    · go_wp2_with fail
      go_ret
      exact ⟨rfl, HBB.out.trans (HBW.out.mono HBB.out.size)⟩

/-- **ref01.Same** of one number twice. -/
theorem same_num {u v : Value} {n : Nat} {w : World} (hu : Num w u n) (hv : Num w v n) :
    Calls Tryz.prog 15 #[u, v] w fun e W' => e = .returned (.bool true) ∧ Below w.heap.size w W' := by
  obtain ⟨a, ca, rfl, ha⟩ := hu
  obtain ⟨b, cb, rfl, hb⟩ := hv
  exact same_any a b (M.dig n) ca cb w ha hb

theorem tmod_neg {n : Int} {m : Nat} (hm : 0 < m) (h : n.tmod (m : Int) < 0) : n.tmod (m : Int) + (m : Int) = n % (m : Int) := by
  rw [Int.tmod_eq_emod] at h ⊢
  split at h
  · have := Int.emod_nonneg n (b := (m : Int)) (by omega); omega
  · rename_i hh; rw [if_neg hh]; simp
theorem tmod_pos {n : Int} {m : Nat} (hm : 0 < m) (h : 0 ≤ n.tmod (m : Int)) : n.tmod (m : Int) = n % (m : Int) := by
  rw [Int.tmod_eq_emod] at h ⊢
  split at h
  · rename_i hh; rw [if_pos hh]; simp
  · have := Int.emod_lt_of_pos n (b := (m : Int)) (by omega); simp at h; omega

set_option maxHeartbeats 400000 in
/-- **made.Mod** -/
theorem mod_any (n : Int) (m : Nat) (w : World) (hm : 0 < m) (hm2 : m ≤ 4611686018427387904) :
    Calls Tryz.prog 11 #[.int .i64 n, .int .i64 (m : Int)] w fun e W' => e = .returned (.int .i64 (n % (m : Int))) ∧ W' = w := by
  go_enter Tryz.func11, Tryz.ntmps11
  go_wp2
  · have h : n.tmod (m : Int) < 0 := by assumption
    go_ret
    refine ⟨?_, rfl⟩
    have e := tmod_neg hm h
    have h1 := Int.emod_nonneg n (b := (m : Int)) (by omega)
    have h2 := Int.emod_lt_of_pos n (b := (m : Int)) (by omega)
    rw [← e] at h1 h2
    have h3 : wrap64 (n.tmod (m : Int) + (m : Int)) = n.tmod (m : Int) + (m : Int) := IntWalk.wrap64_in _ ⟨by omega, by omega⟩
    first
      | (rw [← e]; rfl)
      | (show Ending.returned (.int .i64 (wrap64 _)) = _; rw [h3, e])
  · have h : 0 ≤ n.tmod (m : Int) := by assumption
    go_ret
    refine ⟨?_, rfl⟩
    have e := tmod_pos hm h
    show Ending.returned (.int .i64 _) = _
    rw [e]
end Go.Proofs.YtmejneobfkbgeaaGreatDoor

namespace Go.Proofs.YtmejneobfkbgeaaGreatDoor
open Go Go.RowKit Go.Shelf

theorem ch_len {n : Nat} (h : n ≤ 4096) (k : Int) : (M.dig (chI n k)).length ≤ 200 := by
  unfold chI
  split
  · rw [M.dig_zero]; exact Nat.zero_le _
  · exact Nat.le_trans (ch_dig_len h _) (by omega)

theorem chI_pascal (n : Nat) (k : Int) : chI n (k - 1) + chI n k = chI (n + 1) k := by
  unfold chI
  by_cases h : k < 0
  · rw [if_pos h, if_pos h, if_pos (by omega)]
  · by_cases h0 : k = 0
    · subst h0
      simp [M.ch_zero]
    · obtain ⟨j, rfl⟩ : ∃ j : Nat, k = j + 1 := ⟨(k - 1).toNat, by omega⟩
      rw [if_neg (by omega), if_neg (by omega), if_neg (by omega), show ((j : Int) + 1 - 1).toNat = j by omega, show ((j : Int) + 1).toNat = j + 1 by omega, M.ch_succ]

theorem mod_nat (k : Int) (m : Nat) (h : 0 < m) : ∃ kk : Nat, k % (m : Int) = kk ∧ kk < m := by
  have h0 := Int.emod_nonneg k (b := (m : Int)) (by omega)
  have h1 := Int.emod_lt_of_pos k (b := (m : Int)) (by omega)
  exact ⟨(k % (m : Int)).toNat, by omega, by omega⟩

/-- A variable of type Nat that lies in a block of its own holds the number n. -/
structure Var (W : World) (b : Nat) (a : Option Addr) (cap n : Nat) : Prop where
  cell : W.cell? ⟨b, 0, none⟩ = some (.slice a (M.dig n).length cap)
  row : Row W a (M.dig n) cap
theorem Var.new {W : World} {a : Option Addr} {cap n : Nat} (h : Row W a (M.dig n) cap) : Var (W.alloc (.cells #[.slice a (M.dig n).length cap] 41)) W.heap.size a cap n :=
  ⟨cell_new _ _ _, h.alloc _⟩
theorem Var.below {W W' : World} {b : Nat} {a : Option Addr} {cap n : Nat} (h : Var W b a cap n) (hb : Below W.heap.size W W') : Var W' b a cap n :=
  ⟨(hb.cell (p := ⟨b, 0, none⟩) (lt_of_cell h.cell)).trans h.cell, h.row.below hb⟩
theorem Var.alloc {W : World} {b : Nat} {a : Option Addr} {cap n : Nat} (h : Var W b a cap n) (o : Obj) : Var (W.alloc o) b a cap n :=
  h.below ((Below.refl _ W).alloc (Nat.le_refl _) _)
theorem Var.lt {W : World} {b : Nat} {a : Option Addr} {cap n : Nat} (h : Var W b a cap n) : b < W.heap.size := lt_of_cell h.cell
theorem step_below {w W W' : World} {o : Obj} (h : Below w.heap.size w W) (hb : Below (W.alloc o).heap.size (W.alloc o) W') : Below w.heap.size w W' :=
  (h.alloc h.size o).trans (hb.mono (by have := h.size; simp; omega))

theorem row_nil (W : World) : Row W none (M.dig 0) 0 := by rw [M.dig_zero]; exact ⟨Nat.le_refl _, by omega, fun j hj => by simp at hj⟩
theorem Var.store {W : World} {b : Nat} {a a' : Option Addr} {cap cap' n n' : Nat} (h : Var W b a cap n) (hr : Row W a' (M.dig n') cap') : Var (W.setCell ⟨b, 0, none⟩ (.slice a' (M.dig n').length cap')) b a' cap' n' :=
  ⟨World.cell?_setCell_same' _ _ _ (by rw [h.cell]; rfl), hr.store h.cell _⟩
theorem sum_len {m j : Nat} (hm : m < 40) (hj : j ≤ m + 1) : (M.dig (M.chSum m j)).length ≤ 200 := by
  have h1 := M.chSum_le m j hj
  have h2 : 2 ^ m < 2 ^ 48 := Nat.pow_lt_pow_right (by omega) (by omega)
  exact Nat.le_trans (M.dig_len_le.2 (Nat.lt_of_le_of_lt h1 (Nat.lt_of_lt_of_le h2 (by decide : 2 ^ 48 ≤ 16777216 ^ 2)))) (by omega)

/-- What holds in the loop that adds up the sets of all sizes. -/
def SumRel (w : World) (B m : Nat) (i : Value) (W : World) : Prop :=
  ∃ (j : Nat) (a : Option Addr) (cap : Nat), i = .int .i64 (j : Int) ∧ j ≤ m + 1 ∧ Var W B a cap (M.chSum m j) ∧ W.frozen? ⟨B, 0, none⟩ = false ∧ w.heap.size ≤ B ∧ Below w.heap.size w W

end Go.Proofs.YtmejneobfkbgeaaGreatDoor

namespace Go.Proofs.YtmejneobfkbgeaaGreatDoor
open Go Go.RowKit Go.Shelf
attribute [local go_sem] Oper.semAt_some

theorem lt_of_top {zs ys : List Int} (hz : M.Lim zs) (hy : M.Lim ys) (hl : zs.length = ys.length) (k : Nat) (hk : k < zs.length) (he : ∀ j, k < j → M.el zs j = M.el ys j) (h : M.el zs k < M.el ys k) : M.val zs < M.val ys := by
  have e1 : M.val zs = M.val (zs.take k) + 16777216 ^ k * (M.el zs k + 16777216 * M.val (zs.drop (k + 1))) := by
    have := M.val_append (zs.take k) (zs.drop k)
    rw [List.take_append_drop, List.length_take, Nat.min_eq_left (by omega), M.drop_el _ _ hk] at this
    rw [this]; rfl
  have e2 : M.val ys = M.val (ys.take k) + 16777216 ^ k * (M.el ys k + 16777216 * M.val (zs.drop (k + 1))) := by
    have hd : zs.drop (k + 1) = ys.drop (k + 1) := M.ext_el (by simp [hl]) fun j _ => by rw [M.el_drop, M.el_drop]; exact he _ (by omega)
    have := M.val_append (ys.take k) (ys.drop k)
    rw [List.take_append_drop, List.length_take, Nat.min_eq_left (by omega), M.drop_el _ _ (by omega : k < ys.length)] at this
    rw [this, hd]; rfl
  have b1 : M.val (zs.take k) < 16777216 ^ k := M.val_le_of_len (hz.take k) (by rw [List.length_take]; omega)
  have b2 := M.val_nonneg (hy.take k)
  have b3 : (16777216 : Int) ^ k * (M.el zs k + 16777216 * M.val (zs.drop (k + 1)) + 1) ≤ 16777216 ^ k * (M.el ys k + 16777216 * M.val (zs.drop (k + 1))) := Int.mul_le_mul_of_nonneg_left (by omega) (Int.le_of_lt (M.pow_pos k))
  rw [Int.mul_add, Int.mul_one] at b3
  rw [e1, e2]
  omega

theorem compare_lt {x y : Int} (h : x < y) : Lib.compareInt x y = -1 := by unfold Lib.compareInt; rw [if_pos h]
theorem compare_gt {x y : Int} (h : y < x) : Lib.compareInt x y = 1 := by unfold Lib.compareInt; rw [if_neg (by omega), if_pos h]
theorem compare_eq {x y : Int} (h : x = y) : Lib.compareInt x y = 0 := by subst h; unfold Lib.compareInt; simp
theorem compare_ne {x y : Int} (h : x ≠ y) : Lib.compareInt x y ≠ 0 := by
  rcases Int.lt_or_gt_of_ne h with h | h
  · rw [compare_lt h]; decide
  · rw [compare_gt h]; decide

/-- The comparison of numbers is that of their lengths, where they differ. -/
theorem compare_len (x y : Nat) (h : (M.dig x).length ≠ (M.dig y).length) : Lib.compareInt ((M.dig x).length : Int) ((M.dig y).length : Int) = Lib.compareInt (x : Int) (y : Int) := by
  have hlt : ∀ a b : Nat, (M.dig a).length < (M.dig b).length → a < b := by
    intro a b hl
    by_cases hab : a < b
    · exact hab
    · have h1 : a < 16777216 ^ (M.dig a).length := M.dig_len_le.1 (Nat.le_refl _)
      have h2 : (M.dig b).length ≤ (M.dig a).length := M.dig_len_le.2 (by omega)
      omega
  rcases Nat.lt_or_gt_of_ne h with h | h
  · rw [compare_lt (by omega), compare_lt (by have := hlt x y h; omega)]
  · rw [compare_gt (by omega), compare_gt (by have := hlt y x h; omega)]
/-- .. and that of the highest limb in which they differ. -/
theorem compare_top (x y : Nat) (h : (M.dig x).length = (M.dig y).length) (k : Nat) (hk : k < (M.dig x).length) (he : ∀ j, k < j → M.el (M.dig x) j = M.el (M.dig y) j) (hne : M.el (M.dig x) k ≠ M.el (M.dig y) k) : Lib.compareInt (M.el (M.dig x) k) (M.el (M.dig y) k) = Lib.compareInt (x : Int) (y : Int) := by
  rcases Int.lt_or_gt_of_ne hne with h' | h'
  · have := lt_of_top (M.lim_dig x) (M.lim_dig y) h k hk he h'
    rw [M.val_dig, M.val_dig] at this
    rw [compare_lt h', compare_lt this]
  · have := lt_of_top (M.lim_dig y) (M.lim_dig x) h.symm k (by omega) (fun j hj => (he j hj).symm) h'
    rw [M.val_dig, M.val_dig] at this
    rw [compare_gt h', compare_gt this]
theorem compare_same (x y : Nat) (h : (M.dig x).length = (M.dig y).length) (he : ∀ j : Nat, M.el (M.dig x) j = M.el (M.dig y) j) : Lib.compareInt (x : Int) (y : Int) = 0 :=
  compare_eq (by rw [M.dig_inj (M.ext_el h fun k _ => he k)])

set_option maxRecDepth 100000 in
set_option maxHeartbeats 2000000 in
theorem cmp_of (hC : ∀ (x y : Int) (w : World), Calls Tryz.prog 156 #[.int .i64 x, .int .i64 y] w fun e w' => e = .returned (.int .i64 (Lib.compareInt x y)) ∧ w' = w) (a b : Option Addr) (ca cb x y : Nat) (w : World) (hA : Row w a (M.dig x) ca) (hB : Row w b (M.dig y) cb) :
    Calls Tryz.prog 150 #[.agg #[.slice a (M.dig x).length ca], .agg #[.slice b (M.dig y).length cb]] w fun e W' => e = .returned (.int .i64 (Lib.compareInt (x : Int) (y : Int))) ∧ Below w.heap.size w W' := by
  have HC := Lib.hid hC
  clear hC
  refine (callsIn_wide (n := 6)).1 ?_
  refine callsIn_of_wp_marks Tryz.func150 rfl trivial ?_ rfl
  simp only [Tryz.ntmps150, List.size_toArray, List.length_cons, List.length_nil, Nat.reduceAdd, Nat.reduceSub, Array.replicate_succ, Array.replicate_zero, List.push_toArray, List.append_toArray, List.nil_append, List.cons_append]
  have c0 := cell_new w (.slice a (M.dig x).length ca) 41
  have c1 := cell_new (w.alloc (.cells #[.slice a (M.dig x).length ca] 41)) (.slice b (M.dig y).length cb) 41
  have c2 := cell_new ((w.alloc (.cells #[.slice a (M.dig x).length ca] 41)).alloc (.cells #[.slice b (M.dig y).length cb] 41)) (.int .i64 0) 3
  have f2 := frozen_new ((w.alloc (.cells #[.slice a (M.dig x).length ca] 41)).alloc (.cells #[.slice b (M.dig y).length cb] 41)) (.int .i64 0) 3
  simp only [World.size_alloc] at c1 c2 f2
  have d1 := cell_later (.cells #[.int .i64 0] 3) c1
  have d0 := cell_later (.cells #[.int .i64 0] 3) (cell_later (.cells #[.slice b (M.dig y).length cb] 41) c0)
  have HD := Lib.hid (And.intro d0 (And.intro d1 (And.intro c2 f2)))
  clear d0 d1 c2 f2 c0 c1
  have hB0 : Below w.heap.size w (((w.alloc (.cells #[.slice a (M.dig x).length ca] 41)).alloc (.cells #[.slice b (M.dig y).length cb] 41)).alloc (.cells #[.int .i64 0] 3)) := (((Below.refl _ w).alloc (Nat.le_refl _) _).alloc (by simp) _).alloc (by simp; omega) _
  have HB0 := Lib.hid hB0
  clear hB0
  by_cases hl : (M.dig x).length = (M.dig y).length
  · have hcmp : Lib.compareInt ((M.dig x).length : Int) ((M.dig y).length : Int) = 0 := compare_eq (by rw [hl])
    have HL := Lib.hid hl
    clear hl
    gi_wp2_with fail
    refine ⟨trivial, ?_⟩
    refine (callsIn_wide.2 (HC.out _ _ _)).mono ?_
    rintro e w' ⟨rfl, rfl⟩
    rw [hcmp]
    gi_wp2_with fail
    refine ⟨trivial, ?_⟩
    refine (callsIn_wide.2 (backward_any _ _ _ _)).mono ?_
    rintro e w' ⟨rfl, rfl⟩
    gi_wp2_with fail
    have d3 := cell_new (((w.alloc (.cells #[.slice a (M.dig x).length ca] 41)).alloc (.cells #[.slice b (M.dig y).length cb] 41)).alloc (.cells #[.int .i64 0] 3)) (.slice a (M.dig x).length ca) 24
    simp only [World.size_alloc] at d3
    refine wpIn_back (n := 6) (by omega) (Bs := w.heap.size + 1 + 1 + 1) rfl rfl a (M.dig x).length ca (by have := hA.room; have := hA.most; omega) (fun j => M.el (M.dig x) j)
      (fun k W => ((∀ j : Nat, k ≤ j → M.el (M.dig x) j = M.el (M.dig y) j) ∧ W.cell? ⟨w.heap.size + 1, 0, none⟩ = some (.slice b (M.dig y).length cb) ∧ W.cell? ⟨w.heap.size + 1 + 1, 0, none⟩ = some (.int .i64 0) ∧ W.frozen? ⟨w.heap.size + 1 + 1, 0, none⟩ = false ∧ W.cell? ⟨w.heap.size + 1 + 1 + 1, 0, none⟩ = some (.slice a (M.dig x).length ca)) ∧ Below w.heap.size w W)
      (fun c k W => (c = .ret ∧ W.cell? ⟨w.heap.size + 1 + 1, 0, none⟩ = some (.int .i64 (Lib.compareInt (x : Int) (y : Int)))) ∧ Below w.heap.size w W)
      (OwnFrom.and (Own.from (fun s A B row hs hg hr => ⟨hs.1, cell_kept hs.2.1 hg hr, cell_kept hs.2.2.1 hg hr, (frozen_kept hs.2.2.1 hg hr).trans hs.2.2.2.1, cell_kept hs.2.2.2.2 hg hr⟩) _) (ownFrom_below (Nat.le_refl _) (by simp; omega)))
      (fun c => OwnFrom.and (Own.from (fun s A B row hs hg hr => ⟨hs.1, cell_kept hs.2 hg hr⟩) _) (ownFrom_below (Nat.le_refl _) (by simp; omega)))
      ⟨⟨fun j hj => by rw [M.el_ge hj, M.el_ge (by rw [← HL.out]; exact hj)], cell_later _ HD.out.2.1, cell_later _ HD.out.2.2.1, frozen_later _ HD.out.2.2.1 HD.out.2.2.2, d3⟩, HB0.out.alloc (by simp; omega) _⟩
      (fun k W h => h.1.2.2.2.2)
      (fun k W h hk => by
        obtain ⟨b, off, e, hc⟩ := hA.el k hk
        exact ⟨b, off, e, (h.2.cell (p := ⟨b, off + k, none⟩) (lt_of_cell hc)).trans hc⟩)
      (fun k => { tmps := List.toArray ((.agg #[.slice a (M.dig x).length ca]) :: (.agg #[.slice b (M.dig y).length cb]) :: (.pointer (some ⟨w.heap.size, 0, none⟩)) :: (.pointer (some ⟨w.heap.size + 1, 0, none⟩)) :: (.pointer (some ⟨w.heap.size + 1 + 1, 0, none⟩)) :: (.int .i64 0) :: (.int .i64 (k : Int)) :: (.int .i64 (M.el (M.dig x) k)) :: undef :: (.pointer (some ⟨w.heap.size, 0, none⟩)) :: (.slice a (M.dig x).length ca) :: (.int .i64 ((M.dig x).length : Int)) :: (.pointer (some ⟨w.heap.size + 1, 0, none⟩)) :: (.slice b (M.dig y).length cb) :: (.int .i64 ((M.dig y).length : Int)) :: (.int .i64 0) :: (.int .i64 0) :: (.bool false) :: undef :: (.pointer (some ⟨w.heap.size, 0, none⟩)) :: (.slice a (M.dig x).length ca) :: (.func (.func 136) #[] #[.pointer (some ⟨w.heap.size + 1 + 1 + 1, 0, none⟩)]) :: (.int .i64 (k : Int)) :: (.int .i64 (M.el (M.dig x) k)) :: undef :: undef :: undef :: undef :: undef :: undef :: undef :: undef :: undef :: undef :: []), defers := [] }) ?assign ?body ?done ?stop
    case assign =>
      intro l k W K hk hK
      gi_wp2
      exact hK
    case body =>
      rintro l k W hl hrec ⟨⟨hz, hc1, hc2, hf2, hc3⟩, hB'⟩ hk
      have hroom := hB.room
      have hmost := hB.most
      have hky : k < (M.dig y).length := by rw [← HL.out]; exact hk
      obtain ⟨bb, off, rfl, hcy0⟩ := hB.el k hky
      have hcy := (hB'.cell (p := ⟨bb, off + k, none⟩) (lt_of_cell hcy0)).trans hcy0
      have HZ := Lib.hid hz
      clear hz hcy0
      by_cases hne : M.el (M.dig x) k = M.el (M.dig y) k
      · have hc := compare_eq hne
        have HN := Lib.hid hne
        clear hne
        gi_wp2_with fail
        refine ⟨trivial, ?_⟩
        refine (callsIn_wide.2 (HC.out _ _ _)).mono ?_
        rintro e w' ⟨rfl, rfl⟩
        rw [hc]
        gi_wp2_with fail
        refine ⟨(KeepsOthers.refl _).from _, ⟨fun j hj => ?_, hc1, hc2, hf2, hc3⟩, hB'⟩
        by_cases e : j = k
        · rw [e]; exact HN.out
        · exact HZ.out j (by omega)
      · have hc := compare_top x y HL.out k hk (fun j hj => HZ.out j hj) hne
        have hnb : (Lib.compareInt (x : Int) (y : Int) != 0) = true := by
          rw [← hc, bne_iff_ne]; exact compare_ne hne
        have HN := Lib.hid hne
        clear hne
        gi_wp2_with fail
        refine ⟨trivial, ?_⟩
        refine (callsIn_wide.2 (HC.out _ _ _)).mono ?_
        rintro e w' ⟨rfl, rfl⟩
        rw [hc]
        gi_wp2_with fail
        exact ⟨(KeepsOthers.setCell _ _ _).from _, ⟨rfl, World.cell?_setCell_same' _ _ _ (by rw [hc2]; rfl)⟩, hB'.setCell (p := ⟨w.heap.size + 1 + 1, 0, none⟩) (by simp; omega) _⟩
    case done =>
      rintro D W hD ⟨⟨hz, _, hc2, hf2, _⟩, hB'⟩ hK
      have HS := Lib.hid (compare_same x y HL.out fun j => hz j (Nat.zero_le _))
      clear hz
      gi_wp2
      have hK' := (KeepsOthers.setCell W ⟨w.heap.size + 1 + 1, 0, none⟩ (.int .i64 0)).same D _ hK rfl
      refine ⟨by simp, .inl ⟨_, _, rfl, run_takeDeferred hK', ?_⟩⟩
      have hc5 := cell_kept (World.cell?_setCell_same' W ⟨w.heap.size + 1 + 1, 0, none⟩ (.int .i64 0) (by rw [hc2]; rfl)) (grownBy_putObj' _ D (.deferred none)) (fun r e => by cases e; exact ⟨_, hK', rfl⟩)
      refine ⟨.int .i64 0, ?_, by rw [HS.out], (hB'.setCell (p := ⟨w.heap.size + 1 + 1, 0, none⟩) (by simp; omega) _).trans (belowK_b (w := w) (Nat.le_refl _) _ D _ _ (by simp at hD; omega) hK' rfl rfl)⟩
      simp [results, Tryz.f150, go_sem, hc5]
    case stop =>
      rintro D c k W hD hk ⟨⟨rfl, hc2⟩, hB'⟩ hK
      gi_wp2
      refine ⟨by simp, .inl ⟨_, _, rfl, run_takeDeferred hK, ?_⟩⟩
      have hc5 := cell_kept hc2 (grownBy_putObj' _ D (.deferred none)) (fun r e => by cases e; exact ⟨_, hK, rfl⟩)
      refine ⟨.int .i64 (Lib.compareInt (x : Int) (y : Int)), ?_, rfl, hB'.trans (belowK_b (w := w) (Nat.le_refl _) W D _ _ (by simp at hD; omega) hK rfl rfl)⟩
      simp [results, Tryz.f150, go_sem, hc5]
  · have hcmp := compare_len x y hl
    have hne : (Lib.compareInt (x : Int) (y : Int) != 0) = true := by
      rw [← hcmp, bne_iff_ne]; exact compare_ne (by omega)
    have HL := Lib.hid hl
    clear hl
    gi_wp2_with fail
    refine ⟨trivial, ?_⟩
    refine (callsIn_wide.2 (HC.out _ _ _)).mono ?_
    rintro e w' ⟨rfl, rfl⟩
    rw [hcmp]
    gi_wp2_with fail
    have e2 := cell_new ((w.alloc (.cells #[.slice a (M.dig x).length ca] 41)).alloc (.cells #[.slice b (M.dig y).length cb] 41)) (.int .i64 (Lib.compareInt (x : Int) (y : Int))) 3
    simp only [World.size_alloc] at e2
    refine ⟨.int .i64 (Lib.compareInt (x : Int) (y : Int)), ?_, rfl, (((Below.refl _ w).alloc (Nat.le_refl _) _).alloc (by simp) _).alloc (by simp; omega) _⟩
    simp [results, Tryz.f150, go_sem, e2]

end Go.Proofs.YtmejneobfkbgeaaGreatDoor

namespace Go.Proofs.YtmejneobfkbgeaaGreatDoor
open Go Go.RowKit Go.Shelf

theorem cmp_any (a b : Option Addr) (ca cb x y : Nat) (w : World) (hA : Row w a (M.dig x) ca) (hB : Row w b (M.dig y) cb) :
    Calls Tryz.prog 150 #[.agg #[.slice a (M.dig x).length ca], .agg #[.slice b (M.dig y).length cb]] w fun e W' => e = .returned (.int .i64 (Lib.compareInt (x : Int) (y : Int))) ∧ Below w.heap.size w W' :=
  cmp_of compare_any a b ca cb x y w hA hB

theorem cmp_num {u v : Value} {x y : Nat} {w : World} (hu : Num w u x) (hv : Num w v y) :
    Calls Tryz.prog 150 #[u, v] w fun e W' => e = .returned (.int .i64 (Lib.compareInt (x : Int) (y : Int))) ∧ Below w.heap.size w W' := by
  obtain ⟨a, ca, rfl, ha⟩ := hu
  obtain ⟨b, cb, rfl, hb⟩ := hv
  exact cmp_any a b ca cb x y w ha hb
end Go.Proofs.YtmejneobfkbgeaaGreatDoor

namespace Go.Proofs.YtmejneobfkbgeaaGreatDoor
open Go Go.RowKit Go.Shelf
attribute [local go_sem] mask24

theorem sub_end {zs : List Int} {x y n : Nat} {c : Int} (hz : M.Lim zs) (hl : zs.length = n) (hle : y ≤ x) (hc : -1 ≤ c) (hc2 : c ≤ 0) (h : M.val zs + 16777216 ^ n * c = x - y) : M.trimL zs = M.dig (x - y) := by
  have h1 : M.val zs < 16777216 ^ n := M.val_le_of_len hz (by omega)
  have h2 := M.val_nonneg hz
  have hv : M.val zs = ((x - y : Nat) : Int) := by
    rcases (by omega : c = 0 ∨ c = -1) with rfl | rfl
    · omega
    · rw [Int.mul_neg, Int.mul_one] at h; omega
  rw [M.trimL_dig hz, hv]; rfl

def SubRel (w w3 : World) (g n x y : Nat) (c i : Value) (W : World) : Prop :=
  ∃ (k : Nat) (zs : List Int) (q : Int), i = .int .i64 (k : Int) ∧ c = .int .i64 q ∧ k ≤ n ∧ zs.length = n ∧ M.Lim zs ∧ -1 ≤ q ∧ q ≤ 0 ∧
    M.val (zs.take k) + 16777216 ^ k * q = M.val ((M.dig x).take k) + -M.val ((M.dig y).take k) ∧ Own W (w.heap.size + 3) (.slice (some ⟨g, 0, none⟩) zs.length n) zs ∧ Below (w.heap.size + 3) w3 W

set_option maxRecDepth 100000 in
set_option maxHeartbeats 1000000 in
theorem sub_ge (a b : Option Addr) (ca cb x y : Nat) (w : World) (hx : (M.dig x).length ≤ 200) (hy : (M.dig y).length ≤ 200) (ha : Row w a (M.dig x) ca) (hb : Row w b (M.dig y) cb) (hle : y ≤ x) :
    Calls Tryz.prog 133 #[.agg #[.slice a (M.dig x).length ca], .agg #[.slice b (M.dig y).length cb]] w fun e W' =>
      NatRes (x - y) e W' ∧ Below w.heap.size w W' := by
  have Hvx := Lib.hid (vld_dig hx)
  have Hvy := Lib.hid (vld_dig hy)
  have hB3 := boxes_below w (.slice a (M.dig x).length ca) (.slice b (M.dig y).length cb)
  have hsz := boxes_size w (.slice a (M.dig x).length ca) (.slice b (M.dig y).length cb)
  have HA := Lib.hid (ha.below hB3)
  have HB := Lib.hid (hb.below hB3)
  have HC := Lib.hid (boxes_cells w (.slice a (M.dig x).length ca) (.slice b (M.dig y).length cb))
  have HB3 := Lib.hid hB3
  have HSZ := Lib.hid hsz
  have hla : (M.dig x).length ≤ ca := ha.room
  have hlb : (M.dig y).length ≤ cb := hb.room
  have hma := ha.most
  have hmb := hb.most
  clear ha hb hB3 hsz
  go_enter Tryz.func133, Tryz.ntmps133
  go_wp2_with fail
  generalize hw3 : (((w.alloc (.cells #[.slice a (M.dig x).length ca] 41)).alloc (.cells #[.slice b (M.dig y).length cb] 41)).alloc (.cells #[.slice none 0 0] 41)) = w3
  obtain rfl : boxes w (.slice a (M.dig x).length ca) (.slice b (M.dig y).length cb) = w3 := hw3
  generalize boxes w (.slice a (M.dig x).length ca) (.slice b (M.dig y).length cb) = w3 at *
  refine (valid_yes a _ ca _ HA.out Hvx.out).mono ?_
  rintro e w4 ⟨rfl, hb4⟩
  have hsz4 := hb4.size
  have c1 := (hb4.cell (p := ⟨w.heap.size + 1, 0, none⟩) (by rw [HSZ.out]; simp)).trans HC.out.2.1
  go_wp2_with fail
  refine (valid_yes b _ cb _ (HB.out.below hb4) Hvy.out).mono ?_
  rintro e w5 ⟨rfl, hb5⟩
  have hsz5 := hb5.size
  have c0 := (hb5.cell (p := ⟨w.heap.size, 0, none⟩) (by have := HSZ.out; simp; omega)).trans ((hb4.cell (p := ⟨w.heap.size, 0, none⟩) (by rw [HSZ.out]; simp)).trans HC.out.1)
  replace c1 := (hb5.cell (p := ⟨w.heap.size + 1, 0, none⟩) (by have := HSZ.out; simp; omega)).trans c1
  have HD : Hid (w.heap.size + 3 ≤ w5.heap.size ∧ Below w3.heap.size w3 w5) := ⟨by have := HSZ.out; omega, hb4.trans (hb5.mono hb4.size)⟩
  clear hb4 hb5 hsz4 hsz5
  go_wp2_with fail
  refine (cmp_any a b ca cb x y w5 (HA.out.below HD.out.2) (HB.out.below HD.out.2)).mono ?_
  rintro e w5' ⟨rfl, hb5⟩
  have c0' := (hb5.cell (p := ⟨w.heap.size, 0, none⟩) (by have := HD.out.1; simp; omega)).trans c0
  have c1' := (hb5.cell (p := ⟨w.heap.size + 1, 0, none⟩) (by have := HD.out.1; simp; omega)).trans c1
  have HD' : Hid (w.heap.size + 3 ≤ w5'.heap.size ∧ Below w3.heap.size w3 w5') := ⟨Nat.le_trans HD.out.1 hb5.size, HD.out.2.trans (hb5.mono HD.out.2.size)⟩
  clear c0 c1 hb5 HD
  obtain ⟨s, hs, hs0⟩ : ∃ s, Lib.compareInt (x : Int) (y : Int) = s ∧ 0 ≤ s := by
    rcases Nat.lt_or_eq_of_le hle with h | h
    · exact ⟨1, compare_gt (by omega), by decide⟩
    · exact ⟨0, compare_eq (by omega), by decide⟩
  rw [hs]
  go_wp2_with (at_make; refine wpList_make1 rfl _ _ rfl ((M.dig x).length) rfl rfl (by omega) (by omega) HD'.out.1 ?_; intro w6 hown6 hb6; have c0 := (hb6.cell (p := ⟨w.heap.size, 0, none⟩) (by have := HD'.out.1; simp)).trans c0')
  generalize w5'.heap.size = g at *
  have HD : Hid (Below (w.heap.size + 3) w3 w6) := (HD'.out.2.mono (by rw [HSZ.out]; exact Nat.le_refl _)).trans hb6
  clear c0' c1' c0 hb6 HD' hs hs0
  go_loopw [7, 31] (fun c i wr => SubRel w w3 g (M.dig x).length x y c i wr) (fun _ i _ => (M.dig x).length - (intOf i).toNat)
  case atStart => exact ⟨0, _, 0, rfl, rfl, Nat.zero_le _, List.length_replicate, M.Lim.replicate _, by omega, by omega, by simp [M.val], by simpa using hown6, HD.out⟩
  case round =>
    obtain ⟨k, zs, q, hi, hc, hk, hlen, hlim, hq0, hq1, hval, hown, hbW⟩ := hrel
    subst hi hc
    clear hown6 HD
    have hsW := hbW.size
    have c0 := (hbW.cell (p := ⟨w.heap.size, 0, none⟩) (by simp)).trans HC.out.1
    have c1 := (hbW.cell (p := ⟨w.heap.size + 1, 0, none⟩) (by simp)).trans HC.out.2.1
    have c2 := (hbW.cell (p := ⟨w.heap.size + 1 + 1, 0, none⟩) (by simp)).trans HC.out.2.2.1
    have f2 := (hbW.frozen (p := ⟨w.heap.size + 1 + 1, 0, none⟩) (by simp)).trans HC.out.2.2.2
    have HBW := Lib.hid hbW
    clear hbW
    have HVAL := Lib.hid hval
    have HLN := Lib.hid hlen
    have HLIM := Lib.hid hlim
    have HOWN := Lib.hid hown
    clear hval hlen hlim hown
    have hRA : Row wr a (M.dig x) ca := HA.out.below (HBW.out.mono (by rw [HSZ.out]; exact Nat.le_refl _))
    have hRB : Row wr b (M.dig y) cb := HB.out.below (HBW.out.mono (by rw [HSZ.out]; exact Nat.le_refl _))
    by_cases hlt : k < (M.dig x).length
    · have h1 := (M.lim_dig x).get k
      have h2 := (M.lim_dig y).get k
      have HRA := Lib.hid hRA
      have HRB := Lib.hid hRB
      clear hRA hRB
      obtain ⟨hgB, hcz, hfz⟩ := HOWN.out.at k (by rw [HLN.out]; exact hlt)
      obtain ⟨ba, oa, rfl, hcx⟩ := HRA.out.el k hlt
      go_wp2_with fail
      refine (limbAt_any _ _ _ _ _ HRB.out).mono ?_
      rintro e w' ⟨rfl, hw⟩
      obtain rfl : wr = w' := hw.symm
      go_wp2
      go_roundw
      case rel =>
        refine ⟨k + 1, zs.set k ((q + (M.el (M.dig x) k - M.el (M.dig y) k)) % 16777216), _, by go_num, rfl, by omega, by rw [List.length_set]; exact HLN.out, HLIM.out.set k (by omega) (by omega), by omega, by omega, ?_, ?_, HBW.out.setCell (p := ⟨g, k, none⟩) hgB _⟩
        · rw [M.val_set_succ _ _ _ (by rw [HLN.out]; exact hlt), M.val_take_succ', M.val_take_succ', Int.pow_succ]
          have := M.add_step (s := M.el (M.dig x) k) (t := - M.el (M.dig y) k) HVAL.out
          rw [Int.mul_neg] at this
          rw [Int.neg_add, show M.el (M.dig x) k - M.el (M.dig y) k = M.el (M.dig x) k + -M.el (M.dig y) k by omega]
          exact this
        · rw [List.length_set]
          exact HOWN.out.set k _
      case measure => simp [intOf]; omega
    · have hk' : k = (M.dig x).length := by omega
      have hend : M.trimL zs = M.dig (x - y) := by
        refine sub_end HLIM.out HLN.out hle hq0 hq1 ?_
        have hyl : (M.dig y).length ≤ (M.dig x).length := by
          refine M.dig_len_le.2 (Nat.lt_of_le_of_lt hle (M.dig_len_le.1 (Nat.le_refl _)))
        have hv := HVAL.out
        rw [List.take_of_length_le (by rw [HLN.out]; omega), List.take_of_length_le (by omega), List.take_of_length_le (by omega), M.val_dig, M.val_dig, hk'] at hv
        rw [hv]; omega
      have hw := within_any _ zs _ wr HOWN.out.rowAt
      have ho := HOWN.out.trimmed
      rw [HLN.out] at hw
      rw [hend] at hw ho
      obtain ⟨a', c', hcut⟩ := cut_slice (some ⟨g, 0, none⟩) (M.dig x).length (M.dig (x - y))
      rw [hcut] at hw ho
      have h200 : (M.dig (x - y)).length ≤ 200 := Nat.le_trans (M.dig_len_le.2 (Nat.lt_of_le_of_lt (Nat.sub_le x y) (M.dig_len_le.1 (Nat.le_refl _)))) hx
      rw [if_pos h200] at hw
      clear hRA hRB hend hcut
      have HO := Lib.hid ho
      have HK := Lib.hid hk'
      have HW := Lib.hid hw
      clear ho hk' hw
      have hs2 : w.heap.size + 1 + 1 < wr.heap.size := by have := HSZ.out; omega
      go_wp2_with (go_at_call 132; refine HW.out.mono ?_; rintro e w7 ⟨rfl, hb7⟩; have d2 := (hb7.cell (p := ⟨w.heap.size + 1 + 1, 0, none⟩) hs2).trans c2; have g2 := (hb7.frozen (p := ⟨w.heap.size + 1 + 1, 0, none⟩) hs2).trans f2)
      refine bodyPost_ret (v := .tuple #[.agg #[.slice a' (M.dig (x - y)).length c'], .int .i64 0]) (by simp [results, Tryz.results133, go_sem, d2]) rfl ⟨natRes_ok h200 ?_, ?_⟩
      · exact ((HO.out.below hb7).setBelow (p := ⟨w.heap.size + 1 + 1, 0, none⟩) (by simp) _).num
      · exact ((HB3.out.trans (HBW.out.mono (by omega))).trans (hb7.mono (by have := HSZ.out; omega))).setCell (p := ⟨w.heap.size + 1 + 1, 0, none⟩) (by simp; omega) _

set_option maxRecDepth 100000 in
set_option maxHeartbeats 1000000 in
theorem sub_lt (a b : Option Addr) (ca cb x y : Nat) (w : World) (hx : (M.dig x).length ≤ 200) (hy : (M.dig y).length ≤ 200) (ha : Row w a (M.dig x) ca) (hb : Row w b (M.dig y) cb) (hlt : x < y) :
    Calls Tryz.prog 133 #[.agg #[.slice a (M.dig x).length ca], .agg #[.slice b (M.dig y).length cb]] w fun e W' =>
      e = .returned (.tuple #[.agg #[.slice none 0 0], .int .i64 5]) ∧ Below w.heap.size w W' := by
  have Hvx := Lib.hid (vld_dig hx)
  have Hvy := Lib.hid (vld_dig hy)
  have hB3 := boxes_below w (.slice a (M.dig x).length ca) (.slice b (M.dig y).length cb)
  have hsz := boxes_size w (.slice a (M.dig x).length ca) (.slice b (M.dig y).length cb)
  have HA := Lib.hid (ha.below hB3)
  have HB := Lib.hid (hb.below hB3)
  have HC := Lib.hid (boxes_cells w (.slice a (M.dig x).length ca) (.slice b (M.dig y).length cb))
  have HB3 := Lib.hid hB3
  have HSZ := Lib.hid hsz
  clear ha hb hB3 hsz
  go_enter Tryz.func133, Tryz.ntmps133
  go_wp2_with fail
  generalize hw3 : (((w.alloc (.cells #[.slice a (M.dig x).length ca] 41)).alloc (.cells #[.slice b (M.dig y).length cb] 41)).alloc (.cells #[.slice none 0 0] 41)) = w3
  obtain rfl : boxes w (.slice a (M.dig x).length ca) (.slice b (M.dig y).length cb) = w3 := hw3
  generalize boxes w (.slice a (M.dig x).length ca) (.slice b (M.dig y).length cb) = w3 at *
  refine (valid_yes a _ ca _ HA.out Hvx.out).mono ?_
  rintro e w4 ⟨rfl, hb4⟩
  have hsz4 := hb4.size
  have c1 := (hb4.cell (p := ⟨w.heap.size + 1, 0, none⟩) (by rw [HSZ.out]; simp)).trans HC.out.2.1
  go_wp2_with fail
  refine (valid_yes b _ cb _ (HB.out.below hb4) Hvy.out).mono ?_
  rintro e w5 ⟨rfl, hb5⟩
  have hsz5 := hb5.size
  have c0 := (hb5.cell (p := ⟨w.heap.size, 0, none⟩) (by have := HSZ.out; simp; omega)).trans ((hb4.cell (p := ⟨w.heap.size, 0, none⟩) (by rw [HSZ.out]; simp)).trans HC.out.1)
  replace c1 := (hb5.cell (p := ⟨w.heap.size + 1, 0, none⟩) (by have := HSZ.out; simp; omega)).trans c1
  have HD : Hid (w.heap.size + 3 ≤ w5.heap.size ∧ Below w3.heap.size w3 w5) := ⟨by have := HSZ.out; omega, hb4.trans (hb5.mono hb4.size)⟩
  clear hb4 hb5 hsz4 hsz5
  go_wp2_with fail
  refine (cmp_any a b ca cb x y w5 (HA.out.below HD.out.2) (HB.out.below HD.out.2)).mono ?_
  rintro e w5' ⟨rfl, hb5⟩
  have d2 := (hb5.cell (p := ⟨w.heap.size + 1 + 1, 0, none⟩) (by have := HD.out.1; simp; omega)).trans ((HD.out.2.cell (p := ⟨w.heap.size + 1 + 1, 0, none⟩) (by rw [HSZ.out]; simp)).trans HC.out.2.2.1)
  have g2 := (hb5.frozen (p := ⟨w.heap.size + 1 + 1, 0, none⟩) (by have := HD.out.1; simp; omega)).trans ((HD.out.2.frozen (p := ⟨w.heap.size + 1 + 1, 0, none⟩) (by rw [HSZ.out]; simp)).trans HC.out.2.2.2)
  have HB5 := Lib.hid ((HB3.out.trans (HD.out.2.mono (by have := HSZ.out; omega))).trans (hb5.mono (by have := HD.out.1; omega)))
  clear c0 c1 hb5 HD
  rw [compare_lt (by omega : (x : Int) < (y : Int))]
  go_wp2_with fail
  refine bodyPost_ret (v := .tuple #[.agg #[.slice none 0 0], .int .i64 5]) (by simp [results, Tryz.results133, go_sem, d2]) rfl ⟨rfl, ?_⟩
  exact HB5.out.setCell (p := ⟨w.heap.size + 1 + 1, 0, none⟩) (by simp; omega) _

/-- **nat.Sub** of any two numbers: whether it is an error. -/
theorem sub_both (a b : Option Addr) (ca cb x y : Nat) (w : World) (hx : (M.dig x).length ≤ 200) (hy : (M.dig y).length ≤ 200) (ha : Row w a (M.dig x) ca) (hb : Row w b (M.dig y) cb) :
    Calls Tryz.prog 133 #[.agg #[.slice a (M.dig x).length ca], .agg #[.slice b (M.dig y).length cb]] w fun e W' =>
      ∃ (d : Option Addr) (n cd : Nat), e = .returned (.tuple #[.agg #[.slice d n cd], .int .i64 (if y ≤ x then 0 else 5)]) ∧ Below w.heap.size w W' := by
  by_cases h : y ≤ x
  · refine (sub_ge a b ca cb x y w hx hy ha hb h).mono ?_
    rintro e W' ⟨hres, hb'⟩
    obtain ⟨v, rfl, d, cd, rfl, _⟩ := hres.ok (Nat.le_trans (M.dig_len_le.2 (Nat.lt_of_le_of_lt (Nat.sub_le x y) (M.dig_len_le.1 (Nat.le_refl _)))) hx)
    exact ⟨d, _, cd, by rw [if_pos h], hb'⟩
  · refine (sub_lt a b ca cb x y w hx hy ha hb (by omega)).mono ?_
    rintro e W' ⟨rfl, hb'⟩
    exact ⟨none, 0, 0, by rw [if_neg h], hb'⟩
end Go.Proofs.YtmejneobfkbgeaaGreatDoor

namespace Go.Proofs.YtmejneobfkbgeaaGreatDoor.M

/-- One step of adding t times the divisor. -/
theorem addT_step {P V c z t y A B : Int} (h : V + P * c = A + t * B) :
    (V + P * ((c + (z + t * y)) % 16777216)) + P * 16777216 * ((c + (z + t * y)) / 16777216) = (A + P * z) + t * (B + P * y) := by
  have h1 := pow_split P (c + (z + t * y))
  have h2 : P * (c + (z + t * y)) = P * c + P * z + t * (P * y) := by grind
  have h3 : t * (B + P * y) = t * B + t * (P * y) := Int.mul_add ..
  omega

/-- The product in a step, and what is carried on. -/
theorem addT_prod {t y : Int} (hy : 0 ≤ y ∧ y < 16777216) (ht : -16777216 < t ∧ t ≤ 1) : -281474943156225 ≤ t * y ∧ t * y ≤ 16777215 := by
  rcases Int.lt_or_le 0 t with h | h
  · obtain rfl : t = 1 := by omega
    omega
  · have h1 := (mul_bound (a := -t) (b := y) (by omega) hy)
    have h2 : -t * y = -(t * y) := Int.neg_mul ..
    omega
theorem addT_carry {c z p : Int} (hc : -16777216 ≤ c ∧ c ≤ 16777216) (hz : 0 ≤ z ∧ z < 16777216) (hp : -281474943156225 ≤ p ∧ p ≤ 16777215) :
    -16777216 ≤ (c + (z + p)) / 16777216 ∧ (c + (z + p)) / 16777216 ≤ 16777216 := by omega

/-- The highest limb of a part that is less than the divisor, or negative. -/
theorem top_zero {ps : List Int} {n : Nat} (hl : ps.length = n + 1) (hlim : Lim (ps.take n)) (h0 : 0 ≤ val ps) (h1 : val ps < 16777216 ^ n) : el ps n = 0 := by
  have h2 := val_take_succ ps n (by omega)
  rw [List.take_of_length_le (by omega)] at h2
  have h3 := val_lt hlim
  have h4 := val_nonneg hlim
  rw [List.length_take, Nat.min_eq_left (by omega)] at h3
  have hp := pow_pos n
  rcases Int.lt_trichotomy (el ps n) 0 with h | h | h
  · have : 16777216 ^ n * el ps n ≤ (16777216 : Int) ^ n * -1 := Int.mul_le_mul_of_nonneg_left (by omega) (by omega)
    omega
  · exact h
  · have : (16777216 : Int) ^ n * 1 ≤ 16777216 ^ n * el ps n := Int.mul_le_mul_of_nonneg_left (by omega) (by omega)
    omega
theorem top_neg {ps : List Int} {n : Nat} (hl : ps.length = n + 1) (hlim : Lim (ps.take n)) (h0 : val ps < 0) (h1 : -16777216 ^ n ≤ val ps) : el ps n = -1 := by
  have h2 := val_take_succ ps n (by omega)
  rw [List.take_of_length_le (by omega)] at h2
  have h3 := val_lt hlim
  have h4 := val_nonneg hlim
  rw [List.length_take, Nat.min_eq_left (by omega)] at h3
  have hp := pow_pos n
  rcases Int.lt_trichotomy (el ps n) (-1) with h | h | h
  · have : 16777216 ^ n * el ps n ≤ (16777216 : Int) ^ n * -2 := Int.mul_le_mul_of_nonneg_left (by omega) (by omega)
    omega
  · exact h
  · have : (16777216 : Int) ^ n * 0 ≤ 16777216 ^ n * el ps n := Int.mul_le_mul_of_nonneg_left (by omega) (by omega)
    omega
theorem lim_of_top {ps : List Int} {n : Nat} (hl : ps.length = n + 1) (hlim : Lim (ps.take n)) (h : el ps n = 0) : Lim ps := by
  refine lim_of_get fun i hi => ?_
  by_cases e : i = n
  · subst e; omega
  · have := hlim.get i
    rwa [el_take (by omega)] at this

/-- The guess of three limbs by two is the quotient, or one more. -/
theorem guess_ok {P D K P3 D2 p d : Nat} (hK : 0 < K) (hP : P = P3 * K + p) (hp : p < K) (hD : D = D2 * K + d) (hd : d < K) (h2 : 16777216 ≤ D2) (hlt : P < D * 16777216) :
    P / D ≤ min (P3 / D2) 16777215 ∧ min (P3 / D2) 16777215 ≤ P / D + 1 := by
  have hD0 : 0 < D := by
    have : 0 < D2 * K := Nat.mul_pos (by omega) hK
    omega
  have hq : P / D * D ≤ P := Nat.div_mul_le_self P D
  constructor
  · refine Nat.le_min.2 ⟨?_, ?_⟩
    · rw [Nat.le_div_iff_mul_le (by omega)]
      have h3 : P / D * D2 * K ≤ P / D * D := by
        rw [Nat.mul_assoc]; exact Nat.mul_le_mul_left _ (by omega)
      have h4 : P / D * D2 * K < (P3 + 1) * K := by rw [Nat.succ_mul]; omega
      exact Nat.le_of_lt_succ (Nat.lt_of_mul_lt_mul_right h4)
    · have : P / D < 16777216 := (Nat.div_lt_iff_lt_mul hD0).2 (by rwa [Nat.mul_comm] at hlt)
      omega
  · generalize hg : min (P3 / D2) 16777215 = g
    have g1 : g ≤ P3 / D2 := by omega
    have g2 : g ≤ 16777215 := by omega
    match g, g1, g2 with
    | 0, _, _ => exact Nat.zero_le _
    | s + 1, g1, g2 =>
      refine Nat.succ_le_succ ((Nat.le_div_iff_mul_le hD0).2 ?_)
      have h5 : (s + 1) * D2 ≤ P3 := (Nat.le_div_iff_mul_le (by omega)).1 g1
      have h6 : (s + 1) * D2 * K ≤ P3 * K := Nat.mul_le_mul_right _ h5
      have h7 : s * d ≤ D2 * K := Nat.le_trans (Nat.mul_le_mul (by omega : s ≤ D2) (Nat.le_of_lt hd)) (Nat.le_refl _)
      have h8 : s * D = s * D2 * K + s * d := by rw [hD, Nat.mul_add, Nat.mul_assoc]
      have h9 : (s + 1) * D2 * K = s * D2 * K + D2 * K := by rw [Nat.succ_mul, Nat.add_mul]
      omega

/-- Div64's step: q is not less than the quotient; if its test says that it is too great, one less still isn't. -/
theorem div_ge {U Y q : Nat} (hY : 0 < Y) (h : U < q * Y) : U / Y ≤ q - 1 := by
  have : U / Y < q := (Nat.div_lt_iff_lt_mul hY).2 h
  omega
theorem div_eq {U Y q : Nat} (hY : 0 < Y) (hq : U / Y ≤ q) (h : q * Y ≤ U) : U / Y = q :=
  Nat.le_antisymm hq ((Nat.le_div_iff_mul_le hY).2 h)

/-- The value of the limbs from place i on. -/
theorem val_split (zs : List Int) (i : Nat) : val zs = val (zs.take i) + 16777216 ^ (min i zs.length) * val (zs.drop i) := by
  have := val_append (zs.take i) (zs.drop i)
  rwa [List.take_append_drop, List.length_take] at this
end Go.Proofs.YtmejneobfkbgeaaGreatDoor.M

namespace Go.Proofs.YtmejneobfkbgeaaGreatDoor
open Go Go.RowKit Go.Shelf
attribute [local go_sem] mask24

theorem el_mid (xs qs us : List Int) (k : Nat) (hk : k < qs.length) : M.el (xs ++ qs ++ us) (xs.length + k) = M.el qs k := by
  rw [M.el_append_left (by simp; omega), M.el_append_right (by omega), Nat.add_sub_cancel_left]
theorem set_mid (xs qs us : List Int) (k : Nat) (u : Int) (hk : k < qs.length) : (xs ++ qs ++ us).set (xs.length + k) u = xs ++ qs.set k u ++ us := by
  rw [List.set_append_left _ _ (by simp; omega), List.set_append_right _ _ (by omega), Nat.add_sub_cancel_left]

theorem Own.mid {W : World} {B g cap L : Nat} {xs qs us : List Int} (h : Own W B (.slice (some ⟨g, 0, none⟩) L cap) (xs ++ qs ++ us)) (k : Nat) (hk : k < qs.length) :
    W.cell? ⟨g, xs.length + k, none⟩ = some (.int .i64 (M.el qs k)) ∧ W.frozen? ⟨g, xs.length + k, none⟩ = false ∧ B ≤ g ∧ g < W.heap.size ∧ cap ≤ 9223372036854775807 ∧ xs.length + qs.length ≤ cap := by
  have hl := h.len
  obtain ⟨g', e, hB, hW, h3, h4, hc, hf⟩ := h.at2 (xs.length + k) (by simp; omega)
  cases e
  rw [el_mid _ _ _ _ hk] at hc
  exact ⟨hc, hf, hB, hW, h4, by rw [List.length_append, List.length_append] at hl; omega⟩
theorem Own.setMid {W : World} {B g cap L : Nat} {xs qs us : List Int} (h : Own W B (.slice (some ⟨g, 0, none⟩) L cap) (xs ++ qs ++ us)) (k : Nat) (hk : k < qs.length) (u : Int) :
    Own (W.setCell ⟨g, xs.length + k, none⟩ (.int .i64 u)) B (.slice (some ⟨g, 0, none⟩) L cap) (xs ++ qs.set k u ++ us) := by
  have hl := h.len
  subst hl
  have := h.set (xs.length + k) u
  rwa [set_mid _ _ _ _ _ hk] at this
theorem grown_trans {a b c : World} {row : Option Nat} (h : a.grownBy b row) (k : b.grownBy c row) : a.grownBy c row :=
  ⟨k.os.trans h.os, k.tape.trans h.tape, k.output.trans h.output, Nat.le_trans h.size k.size, fun i hi hne => (k.block i (Nat.lt_of_lt_of_le hi h.size) hne).trans (h.block i hi hne)⟩
theorem grown_set {w W : World} {g : Nat} (h : w.grownBy W (some g)) (j : Nat) (u : Value) : w.grownBy (W.setCell ⟨g, j, none⟩ u) (some g) :=
  ⟨h.os, h.tape, h.output, by simpa [World.setCell] using h.size, fun k hk hne => (Below.heap_setCell W ⟨g, j, none⟩ u k (fun e => hne (by rw [e]))).trans (h.block k hk hne)⟩
theorem Row.grown {w W : World} {a : Option Addr} {zs : List Int} {cap : Nat} {row : Option Nat} (h : Row w a zs cap) (hg : w.grownBy W row) (hne : ∀ b off, a = some ⟨b, off, none⟩ → some b ≠ row) : Row W a zs cap :=
  ⟨h.room, h.most, fun j hj => by
    obtain ⟨b, off, e, hc⟩ := h.el j hj
    exact ⟨b, off, e, (World.cell?_of_block (hg.block b (lt_of_cell hc) (hne b off e))).trans hc⟩⟩

def AtRel (w : World) (B g cap L n : Nat) (xs ps us ds : List Int) (t : Int) (v i : Value) (wr : World) : Prop :=
  ∃ (k : Nat) (qs : List Int) (c : Int), i = .int .i64 (k : Int) ∧ v = .int .i64 c ∧ k ≤ n ∧ qs.length = n + 1 ∧ M.Lim (qs.take n) ∧ qs.drop k = ps.drop k ∧ M.val (qs.take k) + 16777216 ^ k * c = M.val (ps.take k) + t * M.val (ds.take k) ∧
    -16777216 ≤ c ∧ c ≤ 16777216 ∧ Own wr B (.slice (some ⟨g, 0, none⟩) L cap) (xs ++ qs ++ us) ∧ w.grownBy wr (some g)
def AtPost (w : World) (B g cap L n : Nat) (xs ps us ds : List Int) (t : Int) (e : Ending) (W : World) : Prop :=
  ∃ qs : List Int, e = .returned (.int .i64 (M.el qs n)) ∧ qs.length = n + 1 ∧ M.Lim (qs.take n) ∧ M.val qs = M.val ps + t * M.val ds ∧ Own W B (.slice (some ⟨g, 0, none⟩) L cap) (xs ++ qs ++ us) ∧ w.grownBy W (some g)

set_option maxRecDepth 100000 in
set_option maxHeartbeats 1000000 in
/-- **nat.addTimes** -/
theorem addTimes_any (B g cap L cp cd n : Nat) (xs ps us ds : List Int) (ad : Option Addr) (t : Int) (w : World) (hown : Own w B (.slice (some ⟨g, 0, none⟩) L cap) (xs ++ ps ++ us))
    (hlp : ps.length = n + 1) (hcp : n + 1 ≤ cp) (hd : Row w ad ds cd) (hld : ds.length = n) (hne : ∀ b off, ad = some ⟨b, off, none⟩ → b ≠ g)
    (hlimp : M.Lim (ps.take n)) (htop : -16777216 ≤ M.el ps n ∧ M.el ps n < 16777216) (hlimd : M.Lim ds) (ht : -16777216 < t ∧ t ≤ 1) :
    Calls Tryz.prog 164 #[.slice (some ⟨g, xs.length, none⟩) (n + 1) cp, .slice ad n cd, .int .i64 t] w (AtPost w B g cap L n xs ps us ds t) := by
  have hdm := hd.room
  have hdm2 := hd.most
  have HO0 := Lib.hid hown
  have HD := Lib.hid hd
  have HNE := Lib.hid hne
  have HLP := Lib.hid hlp
  have HLD := Lib.hid hld
  have HLIMP := Lib.hid hlimp
  have HLIMD := Lib.hid hlimd
  have HTOP := Lib.hid htop
  clear hown hd hne hlp hlimp hlimd htop
  rw [hld] at hdm
  clear hld
  go_enter Tryz.func164, Tryz.ntmps164
  go_wp2
  go_loopw [7, 12] (fun c i wr => AtRel w B g cap L n xs ps us ds t c i wr) (fun _ i _ => n - (intOf i).toNat)
  case atStart => exact ⟨0, ps, 0, rfl, rfl, Nat.zero_le _, HLP.out, HLIMP.out, rfl, by simp [M.val], by omega, by omega, HO0.out, World.grownBy.refl _ _⟩
  case round =>
    obtain ⟨k, qs, c, rfl, rfl, hk, hlq, hlimq, hdrop, hval, hc0, hc1, hown, hgr⟩ := hrel
    have HLQ := Lib.hid hlq
    have HLIMQ := Lib.hid hlimq
    have HDR := Lib.hid hdrop
    have HV := Lib.hid hval
    have HO := Lib.hid hown
    have HG := Lib.hid hgr
    have hsz := hgr.size
    clear hlq hlimq hdrop hval hown hgr
    have hez : M.el qs k = M.el ps k := by
      have := congrArg (fun l => M.el l 0) HDR.out
      simpa only [M.el_drop, Nat.add_zero] using this
    by_cases hlt : k < n
    · have hD := HD.out.grown HG.out (fun b off e => by intro h; cases h; exact HNE.out _ _ e rfl)
      obtain ⟨db, dof, rfl, hcd⟩ := hD.el k (by rw [HLD.out]; exact hlt)
      obtain ⟨hcz, hfz, hgB, hgW, hcap, hcap2⟩ := HO.out.mid k (by rw [HLQ.out]; omega)
      rw [HLQ.out] at hcap2
      have hz := HLIMP.out.get k
      rw [M.el_take hlt, ← hez] at hz
      have hy := HLIMD.out.get k
      have hpr := M.addT_prod hy ht
      have hcr := M.addT_carry (c := c) ⟨hc0, hc1⟩ hz hpr
      obtain ⟨X, hX⟩ : ∃ X, t * M.el ds k = X := ⟨_, rfl⟩
      rw [hX] at hpr hcr
      have HX := Lib.hid hX
      have hXw : IntKind.i64.wrap (t * M.el ds k) = X := by rw [hX, IntKind.wrap_i64]; omega
      have HEZ := Lib.hid hez
      clear hez hX hD
      obtain ⟨z, hz'⟩ : ∃ z, M.el qs k = z := ⟨_, rfl⟩
      rw [hz'] at hcz hz hcr
      have HZ := Lib.hid hz'
      clear hz'
      go_wp2
      go_roundw
      case rel =>
        have hkl : k < qs.length := by rw [HLQ.out]; omega
        refine ⟨k + 1, qs.set k ((c + (z + X)) % 16777216), (c + (z + X)) / 16777216, by go_num, rfl, by omega, by rw [List.length_set]; exact HLQ.out, ?_, ?_, ?_, hcr.1, hcr.2, HO.out.setMid k hkl _, grown_set HG.out _ _⟩
        · rw [List.take_set]
          exact HLIMQ.out.set _ (by omega) (by omega)
        · rw [List.drop_set_of_lt (by omega)]
          have := congrArg (List.drop 1) HDR.out
          rwa [List.drop_drop, List.drop_drop] at this
        · rw [M.val_set_succ _ _ _ hkl, M.val_take_succ', M.val_take_succ', Int.pow_succ, ← HEZ.out, HZ.out]
          have := M.addT_step (z := z) (y := M.el ds k) HV.out
          rwa [HX.out] at this
      case measure => simp [intOf]; omega
    · obtain rfl : k = n := by omega
      obtain ⟨hcz, hfz, hgB, hgW, hcap, hcap2⟩ := HO.out.mid k (by rw [HLQ.out]; omega)
      rw [HLQ.out] at hcap2
      have htop := HTOP.out
      rw [← hez] at htop
      have HEZ := Lib.hid hez
      clear hez
      obtain ⟨z, hz'⟩ : ∃ z, M.el qs k = z := ⟨_, rfl⟩
      rw [hz'] at hcz htop
      have HZ := Lib.hid hz'
      clear hz'
      go_wp2
      go_ret
      have hkl : k < qs.length := by rw [HLQ.out]; omega
      refine ⟨qs.set k (z + c), (show _ = Ending.returned (Value.int .i64 (z + c)) from rfl).trans (by rw [M.el_set _ _ _ _ hkl, if_pos rfl]), by rw [List.length_set]; exact HLQ.out, ?_, ?_, HO.out.setMid k hkl _, grown_set HG.out _ _⟩
      · rw [List.take_set_of_le (Nat.le_refl _)]
        exact HLIMQ.out
      · have h1 := M.val_take_succ qs k hkl
        have h2 := M.val_take_succ ps k (by rw [HLP.out]; omega)
        rw [List.take_of_length_le (by rw [HLQ.out]; omega)] at h1
        rw [List.take_of_length_le (by rw [HLP.out]; omega)] at h2
        have h3 := HV.out
        rw [List.take_of_length_le (l := ds) (by rw [HLD.out]; omega)] at h3
        rw [M.val_set _ _ _ hkl, h1, h2, HZ.out, ← HEZ.out, HZ.out, show z + c - z = c by omega]
        omega
end Go.Proofs.YtmejneobfkbgeaaGreatDoor

namespace Go.Proofs.YtmejneobfkbgeaaGreatDoor
open Go Go.RowKit Go.Shelf

def lzRen : Go.Shelf.Ren := ⟨fun | 129 => 155 | 134 => 168 | n => n, fun | 46 => 70 | 3 => 3 | 53 => 158 | 4 => 4 | 5 => 5 | 9 => 9 | n => n, fun | n => n⟩
theorem lzLays : Go.Proofs.Lays.n134 Tryz.prog lzRen := {
  mixed := by kernel_rfl
  f129 := Tryz.func155.trans (congrArg some (by kernel_rfl))
  f134 := Tryz.func168.trans (congrArg some (by kernel_rfl))
  t3 := Tryz.underlying3
  a3 := Tryz.isAgg3
  z3 := Tryz.sizeOf3
  v3 := Tryz.zeroValue3
  t4 := Tryz.underlying4
  a4 := Tryz.isAgg4
  z4 := Tryz.sizeOf4
  v4 := Tryz.zeroValue4
  t5 := Tryz.underlying5
  a5 := Tryz.isAgg5
  z5 := Tryz.sizeOf5
  v5 := Tryz.zeroValue5
  t9 := Tryz.underlying9
  a9 := Tryz.isAgg9
  z9 := Tryz.sizeOf9
  v9 := Tryz.zeroValue9
  t46 := Tryz.underlying70
  a46 := Tryz.isAgg70
  z46 := Tryz.sizeOf70
  v46 := Tryz.zeroValue70
  t53 := Tryz.underlying158
  a53 := Tryz.isAgg158
  z53 := Tryz.sizeOf158
  v53 := Tryz.zeroValue158 }

theorem len48 (n : Nat) (h0 : 140737488355328 ≤ n) (h1 : n < 281474976710656) : Lib.bitLen n = 48 := by
  rw [Lib.bitLen_shift 47 n (by omega) (by omega), show n / 2 ^ 47 = 1 by omega]
  rfl
theorem lz_48 (y : Int) (w : World) (h0 : 140737488355328 ≤ y) (h1 : y < 281474976710656) :
    Calls Tryz.prog 168 #[.int .u64 y] w fun e w' => e = .returned (.int .i64 16) ∧ w' = w := by
  refine (show Calls Tryz.prog 168 #[.int .u64 y] w _ from Any.bits_LeadingZeros64 lzLays y w (by omega) (by omega)).mono ?_
  rintro e w' ⟨rfl, rfl⟩
  rw [len48 y.toNat (by omega) (by omega)]
  exact ⟨rfl, rfl⟩

theorem mask32u (x : Int) : bits BinOp.and IntKind.u64 x 4294967295 = x % 4294967296 := by
  show IntKind.u64.wrap ((BitVec.ofInt 64 x &&& BitVec.ofInt 64 4294967295).toNat : Int) = _
  have h1 := toNat_ofInt64 x
  have h2 : (BitVec.ofInt 64 4294967295).toNat = 2 ^ 32 - 1 := by decide
  rw [BitVec.toNat_and, h2, Nat.and_two_pow_sub_one_eq_mod, IntKind.wrap_u64]
  omega
theorem or16u (x y : Int) (hx : 0 ≤ x) (hx2 : x < 281474976710656) (hy : 0 ≤ y) (hy2 : y < 65536) : bits BinOp.or IntKind.u64 (x * 65536) y = x * 65536 + y := by
  show IntKind.u64.wrap ((BitVec.ofInt 64 (x * 65536) ||| BitVec.ofInt 64 y).toNat : Int) = _
  have h1 := toNat_ofInt64 (x * 65536)
  have h2 := toNat_ofInt64 y
  obtain ⟨a, rfl⟩ := Int.eq_ofNat_of_zero_le hx
  obtain ⟨b, rfl⟩ := Int.eq_ofNat_of_zero_le hy
  have e1 : (BitVec.ofInt 64 ((a : Int) * 65536)).toNat = 2 ^ 16 * a := by omega
  have e2 : (BitVec.ofInt 64 (b : Int)).toNat = b := by omega
  rw [BitVec.toNat_or, e1, e2, ← Nat.two_pow_add_eq_or_of_lt (by omega), IntKind.wrap_u64]
  omega
theorem or24u (x y : Int) (hx : 0 ≤ x) (hx2 : x < 1099511627776) (hy : 0 ≤ y) (hy2 : y < 16777216) : bits BinOp.or IntKind.u64 (x * 16777216) y = x * 16777216 + y := by
  show IntKind.u64.wrap ((BitVec.ofInt 64 (x * 16777216) ||| BitVec.ofInt 64 y).toNat : Int) = _
  have h1 := toNat_ofInt64 (x * 16777216)
  have h2 := toNat_ofInt64 y
  obtain ⟨a, rfl⟩ := Int.eq_ofNat_of_zero_le hx
  obtain ⟨b, rfl⟩ := Int.eq_ofNat_of_zero_le hy
  have e1 : (BitVec.ofInt 64 ((a : Int) * 16777216)).toNat = 2 ^ 24 * a := by omega
  have e2 : (BitVec.ofInt 64 (b : Int)).toNat = b := by omega
  rw [BitVec.toNat_or, e1, e2, ← Nat.two_pow_add_eq_or_of_lt (by omega), IntKind.wrap_u64]
  omega

theorem div64_le {U y m b p r Q R : Int} (hV : m * 4294967296 + b = U * 65536) (hW : p * 4294967296 + r = y * 65536) (hQ : Q * p + R = m) (h : Q * r ≤ 4294967296 * R + b) : Q * y ≤ U := by
  have h1 : Q * (p * 4294967296 + r) = Q * p * 4294967296 + Q * r := by rw [Int.mul_add, Int.mul_assoc]
  have h2 : Q * (y * 65536) = Q * y * 65536 := by rw [Int.mul_assoc]
  rw [hW, h2] at h1
  omega
theorem div64_lt {U y m b p r Q R : Int} (hV : m * 4294967296 + b = U * 65536) (hW : p * 4294967296 + r = y * 65536) (hQ : Q * p + R = m) (h : 4294967296 * R + b < Q * r) : U < Q * y := by
  have h1 : Q * (p * 4294967296 + r) = Q * p * 4294967296 + Q * r := by rw [Int.mul_add, Int.mul_assoc]
  have h2 : Q * (y * 65536) = Q * y * 65536 := by rw [Int.mul_assoc]
  rw [hW, h2] at h1
  omega
theorem div64_start {U y m b p r : Int} (hV : m * 4294967296 + b = U * 65536) (hW : p * 4294967296 + r = y * 65536) (hb : b < 4294967296) (hp : 0 < p) (hr : 0 ≤ r) (hy : 0 < y) (hU : 0 ≤ U) : U / y ≤ m / p := by
  refine Int.le_ediv_of_mul_le hp ?_
  have h0 : U / y * y ≤ U := Int.ediv_mul_le U (by omega)
  have hk : 0 ≤ U / y := Int.ediv_nonneg hU (by omega)
  generalize U / y = k at *
  have h1 : k * (p * 4294967296 + r) = k * p * 4294967296 + k * r := by rw [Int.mul_add, Int.mul_assoc]
  have h2 : k * (y * 65536) = k * y * 65536 := by rw [Int.mul_assoc]
  have h3 : 0 ≤ k * r := Int.mul_nonneg hk hr
  rw [hW, h2] at h1
  omega
theorem div64_prod {Q r : Int} (h0 : 0 ≤ Q) (h1 : Q < 33554432) (hr : 0 ≤ r ∧ r < 4294967296) : 0 ≤ Q * r ∧ Q * r < 144115188075855872 := by
  refine ⟨Int.mul_nonneg h0 hr.1, ?_⟩
  have := Int.mul_le_mul (a := Q) (b := r) (c := 33554431) (d := 4294967295) (by omega) (by omega) hr.1 (by decide)
  omega
theorem div64_eq {U y Q : Int} (hy : 0 < y) (h : U / y ≤ Q) (hl : Q * y ≤ U) : U / y = Q := Int.le_antisymm h (Int.le_ediv_of_mul_le hy hl)
theorem div64_down {U y Q : Int} (hy : 0 < y) (h : U < Q * y) : U / y ≤ Q - 1 := by
  have := Int.ediv_lt_of_lt_mul hy h
  omega

def Div64Rel (hi lo y m p q : Int) (v1 v2 : Value) : Prop :=
  ∃ Q R : Int, v1 = .int .u64 Q ∧ v2 = .int .u64 R ∧ Q * p + R = m ∧ 0 ≤ Q ∧ Q ≤ q ∧ 0 ≤ R ∧ R < 4294967296 ∧ (hi * 18446744073709551616 + lo) / y ≤ Q

set_option maxRecDepth 100000 in
set_option maxHeartbeats 1000000 in
theorem div64_any (hi lo y : Int) (w : World) (h0 : 0 ≤ hi) (h1 : hi < 256) (l0 : 0 ≤ lo) (l1 : lo < 18446744073709551616) (y0 : 140737488355328 ≤ y) (y1 : y < 281474976710656) :
    Calls Tryz.prog 166 #[.int .u64 hi, .int .u64 lo, .int .u64 y] w fun e w' => (∃ r, e = .returned (.tuple #[.int .u64 ((hi * 18446744073709551616 + lo) / y), r])) ∧ Below w.heap.size w w' := by
  have HLZ := Lib.hid (lz_48 y w y0 y1)
  have n1 : ¬ y = 0 := by omega
  have n2 : ¬ y ≤ hi := by omega
  by_cases hz : hi = 0
  · subst hz
    go_enter Tryz.func166, Tryz.ntmps166
    go_wp2_with fail
    go_quiet (fail)
    go_wp2
    refine bodyPost_ret (v := .tuple #[.int .u64 (lo / y), .int .u64 (lo % y)]) (by simp [results, Tryz.results166, go_sem]) rfl ⟨⟨.int .u64 (lo % y), ?_⟩, belowN (Below.refl _ _) _⟩
    rw [Int.zero_mul, Int.zero_add]
  · obtain ⟨u, hu⟩ : ∃ u, u = hi * 65536 + lo / 281474976710656 := ⟨_, rfl⟩
    have e2 : bits BinOp.or IntKind.u64 (hi * 65536) (lo / 281474976710656) = u := by rw [or16u _ _ (by omega) (by omega) (by omega) (by omega), hu]
    obtain ⟨p, hp⟩ : ∃ p, y * 65536 / 4294967296 = p := ⟨_, rfl⟩
    obtain ⟨r, hr⟩ : ∃ r, (y * 65536) % 4294967296 = r := ⟨_, rfl⟩
    have e3 : bits BinOp.and IntKind.u64 (y * 65536) 4294967295 = r := by rw [mask32u, hr]
    obtain ⟨z, hzz⟩ : ∃ z, IntKind.u64.wrap (lo * 65536) = z := ⟨_, rfl⟩
    have hz' : z = (lo * 65536) % 18446744073709551616 := by rw [← hzz, IntKind.wrap_u64]
    obtain ⟨a, ha⟩ : ∃ a, z / 4294967296 = a := ⟨_, rfl⟩
    obtain ⟨b, hb⟩ : ∃ b, z % 4294967296 = b := ⟨_, rfl⟩
    have e4 : bits BinOp.and IntKind.u64 z 4294967295 = b := by rw [mask32u, hb]
    have hu0 : 0 ≤ u ∧ u < 16777216 := by omega
    have hp0 : 2147483648 ≤ p ∧ p < 4294967296 := by omega
    have hr0 : 0 ≤ r ∧ r < 4294967296 := by omega
    have ha0 : 0 ≤ a ∧ a < 4294967296 := by omega
    have hb0 : 0 ≤ b ∧ b < 4294967296 := by omega
    have hy' : p * 4294967296 + r = y * 65536 := by omega
    have hU : u * 18446744073709551616 + (a * 4294967296 + b) = (hi * 18446744073709551616 + lo) * 65536 := by omega
    have e5 : IntKind.u64.wrap (u.tdiv p) = 0 := by
      rw [Int.tdiv_eq_ediv_of_nonneg hu0.1, Int.ediv_eq_zero_of_lt hu0.1 (by omega)]; rfl
    have e6 : IntKind.u64.wrap u = u := by rw [IntKind.wrap_u64]; omega
    obtain ⟨m, hm⟩ : ∃ m, u * 4294967296 + a = m := ⟨_, rfl⟩
    obtain ⟨q, hq⟩ : ∃ q, q = m / p := ⟨_, rfl⟩
    have e9 : IntKind.u64.wrap (m.tdiv p) = q := by
      rw [Int.tdiv_eq_ediv_of_nonneg (by omega), ← hq, IntKind.wrap_u64]
      have h1 : q < 33554432 := by rw [hq]; exact Int.ediv_lt_of_lt_mul (by omega) (by omega)
      have h2 : 0 ≤ q := by rw [hq]; exact Int.ediv_nonneg (by omega) (by omega)
      omega
    have hq1 : q < 33554432 := by rw [hq]; exact Int.ediv_lt_of_lt_mul (by omega) (by omega)
    have hq2 : 0 ≤ q := by rw [hq]; exact Int.ediv_nonneg (by omega) (by omega)
    have ht0 : q * p + m % p = m := by rw [hq, Int.mul_comm]; exact Int.mul_ediv_add_emod m p
    have ht1 : 0 ≤ m % p := Int.emod_nonneg _ (by omega)
    have ht2 : m % p < p := Int.emod_lt_of_pos _ (by omega)
    have hqp := Int.mul_nonneg hq2 (by omega : 0 ≤ p)
    obtain ⟨t, ht⟩ : ∃ t, t = q * p := ⟨_, rfl⟩
    have e10 : IntKind.u64.wrap (q * p) = t := by rw [ht, IntKind.wrap_u64]; omega
    obtain ⟨rh, hrh⟩ : ∃ rh, m - t = rh := ⟨_, rfl⟩
    have hrh0 : 0 ≤ rh ∧ rh < p := by omega
    have htm : 0 ≤ t ∧ t ≤ m := by omega
    have hst : (hi * 18446744073709551616 + lo) / y ≤ q := by
      rw [hq]
      exact div64_start (b := b) (r := r) (by omega) hy' (by omega) (by omega) (by omega) (by omega) (by omega)
    have hV : m * 4294967296 + b = (hi * 18446744073709551616 + lo) * 65536 := by omega
    have hQ0 : q * p + rh = m := by omega
    have HY := Lib.hid hy'
    have HU := Lib.hid hV
    have HST := Lib.hid hst
    have HQ0 := Lib.hid hQ0
    clear hu hz' hy' hU hr hb hq ht0 ht1 ht2 hqp ht hst hV hQ0
    go_enter Tryz.func166, Tryz.ntmps166
    go_wp2_with fail
    refine HLZ.out.mono ?_
    rintro e w' ⟨rfl, rfl⟩
    go_wp2_with fail
    go_loopw [15, 16] (fun q1 rr wr => q1 = .int .u64 0 ∧ rr = .int .u64 u ∧ Below w'.heap.size w' wr) (fun _ _ _ => 0)
    case atStart => exact ⟨rfl, rfl, Below.refl _ _⟩
    case round =>
      obtain ⟨rfl, rfl, hb1⟩ := hrel
      have HB1 := Lib.hid hb1
      clear hb1
      go_wp2_with fail
      go_loopw [18, 16] (fun v1 v2 wr => Div64Rel hi lo y m p q v1 v2 ∧ Below w'.heap.size w' wr) (fun v1 _ _ => (intOf v1).toNat)
      case atStart => exact ⟨⟨q, rh, rfl, rfl, HQ0.out, hq2, Int.le_refl _, hrh0.1, by omega, HST.out⟩, HB1.out⟩
      case round =>
        obtain ⟨⟨Q, R, rfl, rfl, hQR, hQ0, hQ1, hR0, hR1, hge⟩, hb2⟩ := hrel
        have HB2 := Lib.hid hb2
        have HQR := Lib.hid hQR
        have HGE := Lib.hid hge
        have hQr := div64_prod hQ0 (by omega) hr0
        obtain ⟨X, hX⟩ : ∃ X, X = Q * r := ⟨_, rfl⟩
        rw [← hX] at hQr
        have e11 : IntKind.u64.wrap (Q * r) = X := by rw [← hX, IntKind.wrap_u64]; omega
        have HX := Lib.hid hX
        clear hX hb2 hQR hge
        by_cases ht : 4294967296 * R + b < X
        · have hQ2 : 0 < Q := by
            rcases Int.lt_or_le 0 Q with h | h
            · exact h
            · obtain rfl : Q = 0 := by omega
              have := HX.out
              rw [Int.zero_mul] at this
              omega
          have hd : (hi * 18446744073709551616 + lo) / y ≤ Q - 1 := div64_down (by omega) (div64_lt HU.out HY.out HQR.out (by rw [← HX.out]; exact ht))
          have hQp : (Q - 1) * p + (R + p) = m := by have := HQR.out; rw [Int.sub_mul]; omega
          have HD := Lib.hid hd
          have HQP := Lib.hid hQp
          clear hd hQp
          by_cases hbk : 4294967296 ≤ R + p
          · have hw : IntKind.u64.wrap (R + p) = R + p := by rw [IntKind.wrap_u64]; omega
            go_wp2_with fail
            refine bodyPost_ret (v := .tuple #[.int .u64 (Q - 1), .int .u64 (IntKind.u64.wrap (IntKind.u64.wrap (IntKind.u64.wrap (m * 4294967296) + b) - IntKind.u64.wrap ((Q - 1) * (y * 65536))) / 65536)]) (by simp [results, Tryz.results166, go_sem]) rfl ⟨⟨.int .u64 (IntKind.u64.wrap (IntKind.u64.wrap (IntKind.u64.wrap (m * 4294967296) + b) - IntKind.u64.wrap ((Q - 1) * (y * 65536))) / 65536), ?_⟩, HB2.out⟩
            have h3 := div64_prod (Q := Q - 1) (r := r) (by omega) (by omega) hr0
            rw [div64_eq (by omega) HD.out (div64_le HU.out HY.out HQP.out (by omega))]
          · go_wp2_with fail
            go_roundw
            case rel => exact ⟨⟨Q - 1, R + p, rfl, rfl, HQP.out, by omega, by omega, by omega, by omega, HD.out⟩, HB2.out⟩
            case measure => simp [intOf]; omega
        · go_wp2_with fail
          refine bodyPost_ret (v := .tuple #[.int .u64 Q, .int .u64 (IntKind.u64.wrap (IntKind.u64.wrap (IntKind.u64.wrap (m * 4294967296) + b) - IntKind.u64.wrap (Q * (y * 65536))) / 65536)]) (by simp [results, Tryz.results166, go_sem]) rfl ⟨⟨.int .u64 (IntKind.u64.wrap (IntKind.u64.wrap (IntKind.u64.wrap (m * 4294967296) + b) - IntKind.u64.wrap (Q * (y * 65536))) / 65536), ?_⟩, HB2.out⟩
          rw [div64_eq (by omega) HGE.out (div64_le HU.out HY.out HQR.out (by rw [← HX.out]; omega))]
end Go.Proofs.YtmejneobfkbgeaaGreatDoor

namespace Go.Proofs.YtmejneobfkbgeaaGreatDoor
open Go Go.RowKit Go.Shelf

/-- The three highest limbs of a part by the two highest of the divisor. -/
theorem guess_any (ap ad : Option Addr) (ps ds : List Int) (cp cd n : Nat) (w : World) (hp : Row w ap ps cp) (hd : Row w ad ds cd) (hlp : ps.length = n + 2 + 1) (hld : ds.length = n + 2)
    (hlimp : M.Lim ps) (hlimd : M.Lim ds) (htop : 8388608 ≤ M.el ds (n + 1)) :
    Calls Tryz.prog 163 #[.slice ap ps.length cp, .slice ad ds.length cd] w fun e w' =>
      e = .returned (.int .i64 (min ((M.el ps (n + 2) * 281474976710656 + M.el ps (n + 1) * 16777216 + M.el ps n) / (M.el ds (n + 1) * 16777216 + M.el ds n)) 16777215)) ∧ Below w.heap.size w w' := by
  obtain ⟨pb, po, rfl, c2⟩ := hp.el (n + 2) (by omega)
  have c1 := hp.cell (n + 1) (by omega)
  have c0 := hp.cell n (by omega)
  obtain ⟨db, dof, rfl, d1⟩ := hd.el (n + 1) (by omega)
  have d0 := hd.cell n (by omega)
  have b2 := hlimp.get (n + 2)
  have b1 := hlimp.get (n + 1)
  have b0 := hlimp.get n
  have f1 := hlimd.get (n + 1)
  have f0 := hlimd.get n
  have hm := hp.room
  have hm' := hp.most
  have hr := hd.room
  have hr' := hd.most
  generalize hx2 : M.el ps (n + 2) = x2 at *
  generalize hx1 : M.el ps (n + 1) = x1 at *
  generalize hx0 : M.el ps n = x0 at *
  generalize hy1 : M.el ds (n + 1) = y1 at *
  generalize hy0 : M.el ds n = y0 at *
  clear hx2 hx1 hx0 hy1 hy0 hp hd hlimp hlimd
  rw [hlp, hld]
  rw [hlp] at hm
  rw [hld] at hr
  clear hlp hld
  obtain ⟨H, hH⟩ : ∃ H, H = x2 * 16777216 + x1 := ⟨_, rfl⟩
  have e1 : bits BinOp.or IntKind.u64 (x2 * 16777216) x1 = H := by rw [or24u _ _ (by omega) (by omega) (by omega) (by omega), hH]
  obtain ⟨L, hL⟩ : ∃ L, IntKind.u64.wrap (H * 16777216) = L := ⟨_, rfl⟩
  obtain ⟨K, hK⟩ : ∃ K, K = L + x0 := ⟨_, rfl⟩
  have e2 : bits BinOp.or IntKind.u64 L x0 = K := by
    rw [IntKind.wrap_u64] at hL
    rw [show L = (H % 1099511627776) * 16777216 by omega, or24u _ _ (by omega) (by omega) (by omega) (by omega)]
    omega
  obtain ⟨T, hT⟩ : ∃ T, T = y1 * 16777216 + y0 := ⟨_, rfl⟩
  have e3 : bits BinOp.or IntKind.u64 (y1 * 16777216) y0 = T := by rw [or24u _ _ (by omega) (by omega) (by omega) (by omega), hT]
  have hL' : L = (H * 16777216) % 18446744073709551616 := by rw [← hL, IntKind.wrap_u64]
  have hUU : H / 1099511627776 * 18446744073709551616 + K = x2 * 281474976710656 + x1 * 16777216 + x0 := by omega
  have hdv := fun W : World => div64_any (H / 1099511627776) K T W (by omega) (by omega) (by omega) (by omega) (by omega) (by omega)
  rw [← hT, ← hUU]
  obtain ⟨t, ht⟩ : ∃ t, (H / 1099511627776 * 18446744073709551616 + K) / T = t := ⟨_, rfl⟩
  have ht0 : 0 ≤ t ∧ t < 33554432 := by
    rw [← ht]
    exact ⟨Int.ediv_nonneg (by omega) (by omega), Int.ediv_lt_of_lt_mul (by omega) (by omega)⟩
  rw [ht] at hdv
  rw [ht]
  have HDV := Lib.hid hdv
  clear ht hdv hUU hT hL' hK hH
  go_enter Tryz.func163, Tryz.ntmps163
  go_wp2_with fail
  go_quiet (fail)
  go_wp2_with fail
  go_quiet (fail)
  go_wp2_with fail
  refine (HDV.out _).mono ?_
  rintro e w1 ⟨⟨r, rfl⟩, hb1⟩
  have HB1 := Lib.hid hb1
  clear hb1
  go_wp2_with fail
  go_ret
  exact ⟨rfl, (belowN (Below.refl _ w) _).trans HB1.out⟩
end Go.Proofs.YtmejneobfkbgeaaGreatDoor

namespace Go.Proofs.YtmejneobfkbgeaaGreatDoor.M

theorem val_three (ps : List Int) (n : Nat) (h : ps.length = n + 2 + 1) : val ps = (el ps (n + 2) * 281474976710656 + el ps (n + 1) * 16777216 + el ps n) * 16777216 ^ n + val (ps.take n) := by
  have h1 := val_take_succ ps n (by omega)
  have h2 := val_take_succ ps (n + 1) (by omega)
  have h3 := val_take_succ ps (n + 2) (by omega)
  rw [List.take_of_length_le (by omega)] at h3
  have q2 : (16777216 : Int) ^ (n + 2) = 16777216 ^ n * 281474976710656 := by rw [Int.pow_succ, Int.pow_succ, Int.mul_assoc]; rfl
  have q1 : (16777216 : Int) ^ (n + 1) = 16777216 ^ n * 16777216 := Int.pow_succ ..
  rw [h3, h2, h1, q2, q1]
  clear h1 h2 h3 q1 q2 h
  generalize (16777216 : Int) ^ n = K
  generalize el ps n = a
  generalize el ps (n + 1) = b
  generalize el ps (n + 2) = c
  grind
theorem val_two (ds : List Int) (n : Nat) (h : ds.length = n + 2) : val ds = (el ds (n + 1) * 16777216 + el ds n) * 16777216 ^ n + val (ds.take n) := by
  have h1 := val_take_succ ds n (by omega)
  have h2 := val_take_succ ds (n + 1) (by omega)
  rw [List.take_of_length_le (by omega)] at h2
  have q1 : (16777216 : Int) ^ (n + 1) = 16777216 ^ n * 16777216 := Int.pow_succ ..
  rw [h2, h1, q1]
  clear h1 h2 q1 h
  generalize (16777216 : Int) ^ n = K
  generalize el ds n = a
  generalize el ds (n + 1) = b
  grind

theorem val_pos_top {ds : List Int} {n : Nat} (hl : ds.length = n + 2) (hd : Lim ds) (htop : 8388608 ≤ el ds (n + 1)) : 0 < val ds := by
  have h := val_two ds n hl
  have h1 := val_nonneg (hd.take n)
  have h2 := hd.get n
  have h3 := pow_pos n
  have := Int.mul_pos (show 0 < el ds (n + 1) * 16777216 + el ds n by omega) h3
  omega

theorem guess_int {ps ds : List Int} {n : Nat} (hlp : ps.length = n + 2 + 1) (hld : ds.length = n + 2) (hp : Lim ps) (hd : Lim ds) (htop : 8388608 ≤ el ds (n + 1)) (hlt : val ps < val ds * 16777216) :
    val ps / val ds ≤ min ((el ps (n + 2) * 281474976710656 + el ps (n + 1) * 16777216 + el ps n) / (el ds (n + 1) * 16777216 + el ds n)) 16777215 ∧
    min ((el ps (n + 2) * 281474976710656 + el ps (n + 1) * 16777216 + el ps n) / (el ds (n + 1) * 16777216 + el ds n)) 16777215 ≤ val ps / val ds + 1 ∧
    0 ≤ min ((el ps (n + 2) * 281474976710656 + el ps (n + 1) * 16777216 + el ps n) / (el ds (n + 1) * 16777216 + el ds n)) 16777215 := by
  have b2 := hp.get (n + 2)
  have b1 := hp.get (n + 1)
  have b0 := hp.get n
  have f1 := hd.get (n + 1)
  have f0 := hd.get n
  have e1 := val_three ps n hlp
  have e2 := val_two ds n hld
  have l1 := val_lt (hp.take n)
  have l2 := val_lt (hd.take n)
  have m1 := val_nonneg (hp.take n)
  have m2 := val_nonneg (hd.take n)
  have n1 := val_nonneg hp
  have n2 := val_nonneg hd
  rw [List.length_take, Nat.min_eq_left (by omega)] at l1 l2
  generalize hP3 : el ps (n + 2) * 281474976710656 + el ps (n + 1) * 16777216 + el ps n = P3 at *
  generalize hD2 : el ds (n + 1) * 16777216 + el ds n = D2 at *
  generalize val (ps.take n) = p at *
  generalize val (ds.take n) = d at *
  generalize val ps = P at *
  generalize val ds = D at *
  obtain ⟨P3', rfl⟩ := Int.eq_ofNat_of_zero_le (show 0 ≤ P3 by omega)
  obtain ⟨D2', rfl⟩ := Int.eq_ofNat_of_zero_le (show 0 ≤ D2 by omega)
  obtain ⟨p', rfl⟩ := Int.eq_ofNat_of_zero_le m1
  obtain ⟨d', rfl⟩ := Int.eq_ofNat_of_zero_le m2
  obtain ⟨P', rfl⟩ := Int.eq_ofNat_of_zero_le n1
  obtain ⟨D', rfl⟩ := Int.eq_ofNat_of_zero_le n2
  rw [← pow_cast] at e1 e2 l1 l2
  have k := guess_ok (P := P') (D := D') (K := 16777216 ^ n) (P3 := P3') (D2 := D2') (p := p') (d := d') (Nat.pow_pos (by decide)) (by exact_mod_cast e1) (by exact_mod_cast l1) (by exact_mod_cast e2) (by exact_mod_cast l2) (by omega) (by omega)
  rw [← Int.natCast_ediv, ← Int.natCast_ediv]
  revert k
  generalize P3' / D2' = x
  generalize P' / D' = y
  intro k
  omega

/-- What is left when the quotient, or one more, was taken out. -/
theorem take_zero {P D q : Int} (hD : 0 < D) (h : q = P / D) : 0 ≤ P + -q * D ∧ P + -q * D < D ∧ P + -q * D = P % D := by
  have h1 := Int.mul_ediv_add_emod P D
  have h2 := Int.emod_nonneg P (show D ≠ 0 by omega)
  have h3 := Int.emod_lt_of_pos P hD
  have h4 : -q * D = -(D * (P / D)) := by rw [h, Int.neg_mul, Int.mul_comm]
  omega
theorem take_one {P D q : Int} (hD : 0 < D) (h : q = P / D + 1) : P + -q * D < 0 ∧ -D ≤ P + -q * D ∧ P + -q * D + D = P % D := by
  have h1 := Int.mul_ediv_add_emod P D
  have h2 := Int.emod_nonneg P (show D ≠ 0 by omega)
  have h3 := Int.emod_lt_of_pos P hD
  have h4 : -q * D = -(D * (P / D)) - D := by rw [h, Int.neg_mul, Int.add_mul, Int.mul_comm (P / D)]; omega
  omega
end Go.Proofs.YtmejneobfkbgeaaGreatDoor.M

namespace Go.Proofs.YtmejneobfkbgeaaGreatDoor
open Go Go.RowKit Go.Shelf

theorem Own.midRow {W : World} {B g cap L : Nat} {xs qs us : List Int} (h : Own W B (.slice (some ⟨g, 0, none⟩) L cap) (xs ++ qs ++ us)) {cp : Nat} (hc : qs.length ≤ cp) (hc2 : cp ≤ 9223372036854775807) : Row W (some ⟨g, xs.length, none⟩) qs cp :=
  ⟨hc, hc2, fun j hj => ⟨g, xs.length, rfl, (h.mid j hj).1⟩⟩

theorem grown_any {w W : World} {row : Option Nat} (h : Below w.heap.size w W) : w.grownBy W row := ⟨h.os, h.tape, h.output, h.size, fun k hk _ => h.block k hk⟩

def ToPost (w : World) (B g cap L n : Nat) (xs ps us ds : List Int) (e : Ending) (W : World) : Prop :=
  ∃ qs : List Int, e = .returned (.int .i64 (M.val ps / M.val ds)) ∧ qs.length = n + 2 + 1 ∧ M.Lim qs ∧ M.val qs = M.val ps % M.val ds ∧ Own W B (.slice (some ⟨g, 0, none⟩) L cap) (xs ++ qs ++ us) ∧ w.grownBy W (some g)

set_option maxRecDepth 100000 in
set_option maxHeartbeats 1000000 in
/-- **nat.takeOut** -/
theorem takeOut_any (B g cap L cp cd n : Nat) (xs ps us ds : List Int) (ad : Option Addr) (w : World) (hown : Own w B (.slice (some ⟨g, 0, none⟩) L cap) (xs ++ ps ++ us))
    (hlp : ps.length = n + 2 + 1) (hcp : n + 2 + 1 ≤ cp) (hcp2 : cp ≤ 9223372036854775807) (hd : Row w ad ds cd) (hld : ds.length = n + 2) (hne : ∀ b off, ad = some ⟨b, off, none⟩ → b ≠ g)
    (hlimp : M.Lim ps) (hlimd : M.Lim ds) (htop : 8388608 ≤ M.el ds (n + 1)) (hlt : M.val ps < M.val ds * 16777216) :
    Calls Tryz.prog 157 #[.slice (some ⟨g, xs.length, none⟩) (n + 2 + 1) cp, .slice ad (n + 2) cd] w (ToPost w B g cap L n xs ps us ds) := by
  obtain ⟨g1, g2, g3⟩ := M.guess_int hlp hld hlimp hlimd htop hlt
  have hD0 := M.val_pos_top hld hlimd htop
  have hgs := guess_any _ ad ps ds cp cd n w (hown.midRow (by omega) hcp2) hd hlp hld hlimp hlimd htop
  obtain ⟨q, hq⟩ : ∃ q, min ((M.el ps (n + 2) * 281474976710656 + M.el ps (n + 1) * 16777216 + M.el ps n) / (M.el ds (n + 1) * 16777216 + M.el ds n)) 16777215 = q := ⟨_, rfl⟩
  rw [hq] at g1 g2 g3 hgs
  rw [hlp, hld] at hgs
  have g4 : q ≤ 16777215 := by omega
  have hP0 := M.val_nonneg hlimp
  have HGS := Lib.hid hgs
  have hDl := M.val_lt hlimd
  rw [hld] at hDl
  have htz := hlimp.get (n + 2)
  have HP := Lib.hid (show M.Lim (ps.take (n + 2)) from hlimp.take _)
  have HO := Lib.hid hown
  have HD := Lib.hid hd
  have HNE := Lib.hid hne
  have HLP := Lib.hid hlp
  have HLD := Lib.hid hld
  have HLIMD := Lib.hid hlimd
  clear hgs hq hown hd hne hlp hlimp hlimd hld hlt htop
  go_enter Tryz.func157, Tryz.ntmps157
  go_wp2_with fail
  refine HGS.out.mono ?_
  rintro e w1 ⟨rfl, hb1⟩
  have HO1 := Lib.hid (HO.out.below (hb1))
  have HB1 := Lib.hid hb1
  have HD1 := Lib.hid (HD.out.below hb1)
  have hs1 := hb1.size
  clear hb1
  go_wp2_with fail
  refine (show Calls Tryz.prog 164 _ w1 _ from addTimes_any B g cap L cp cd (n + 2) xs ps us ds ad (-q) w1 HO1.out HLP.out hcp HD1.out HLD.out HNE.out HP.out (by omega) HLIMD.out (by omega)).mono ?_
  rintro e w2 ⟨ts, rfl, hlt, hlimt, hvt, hot, hgt⟩
  have HO2 := Lib.hid hot
  have hs2 := hgt.size
  have HG2 := Lib.hid (grown_trans (grown_any HB1.out) hgt)
  have HD2 := Lib.hid (HD1.out.grown hgt (fun b off e => by intro h; cases h; exact HNE.out _ _ e rfl))
  have HLT := Lib.hid hlt
  have HLIMT := Lib.hid hlimt
  have HVT := Lib.hid hvt
  clear hlt hlimt hvt hot hgt HO HO1 HD1 HB1
  by_cases hc : q = M.val ps / M.val ds
  · obtain ⟨z1, z2, z3⟩ := M.take_zero hD0 hc
    rw [← HVT.out] at z1 z2 z3
    have ez := M.top_zero HLT.out HLIMT.out z1 (Int.lt_trans z2 hDl)
    rw [ez]
    have HEZ := Lib.hid ez
    have HC := Lib.hid hc
    clear ez hc g1 g2
    go_wp2_with fail
    go_ret
    exact ⟨ts, by rw [← HC.out]; rfl, HLT.out, M.lim_of_top HLT.out HLIMT.out HEZ.out, z3, HO2.out, HG2.out⟩
  · have hc1 : q = M.val ps / M.val ds + 1 := by omega
    obtain ⟨z1, z2, z3⟩ := M.take_one hD0 hc1
    rw [← HVT.out] at z1 z2 z3
    have ez := M.top_neg HLT.out HLIMT.out z1 (by omega)
    rw [ez]
    have HEZ := Lib.hid ez
    have HC := Lib.hid hc1
    clear ez hc hc1 g1 g2
    have hq0 : 0 < q := by
      have h1 := HC.out
      have h2 := Int.ediv_nonneg hP0 (Int.le_of_lt hD0)
      omega
    go_wp2_with fail
    refine (show Calls Tryz.prog 164 _ w2 _ from addTimes_any B g cap L cp cd (n + 2) xs ts us ds ad 1 w2 HO2.out HLT.out hcp HD2.out HLD.out HNE.out HLIMT.out (by rw [HEZ.out]; omega) HLIMD.out (by omega)).mono ?_
    rintro e w3 ⟨rs, rfl, hlr, hlimr, hvr, hor, hgr⟩
    have HO3 := Lib.hid hor
    have HG3 := Lib.hid (grown_trans HG2.out hgr)
    have HLR := Lib.hid hlr
    have HLIMR := Lib.hid hlimr
    have HVR := Lib.hid hvr
    clear hlr hlimr hvr hor hgr
    go_wp2_with fail
    go_ret
    have hv : M.val rs = M.val ps % M.val ds := by rw [HVR.out, Int.one_mul, z3]
    have ez := M.top_zero HLR.out HLIMR.out (by rw [hv]; exact Int.emod_nonneg _ (by omega)) (by rw [hv]; exact Int.lt_trans (Int.emod_lt_of_pos _ hD0) hDl)
    exact ⟨rs, (show _ = Ending.returned (Value.int .i64 (q - 1)) from rfl).trans (by rw [HC.out, Int.add_sub_cancel]), HLR.out, M.lim_of_top HLR.out HLIMR.out ez, hv, HO3.out, HG3.out⟩
end Go.Proofs.YtmejneobfkbgeaaGreatDoor
