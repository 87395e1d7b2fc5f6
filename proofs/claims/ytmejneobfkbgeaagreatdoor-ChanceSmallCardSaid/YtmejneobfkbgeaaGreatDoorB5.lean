/- The arithmetic of long division. nat.scale, with the length of what it leaves. Regions that draw their order inside a round of a range over a function: the laws of the plain walk serve there, where no operation defers. No program is named here. nat.divideLong: long division by a number of two limbs or more. slices.Clone of any slice of ints; nat.divideLimbs. The reference's limb, fit, Cmp. The reference's mul and Mul. nat.Divide and nat.Gcd. The reference's times and less. append of any slice of ints to one of the call's own. The reference's less. The numbers of the reference's long division. The reference's Divide. The reference's Of. How many limbs sums and products have. -/
import Derived.Test.YtmejneobfkbgeaaGreatDoorB4
import Derived.Lib.ItoaNum
import Derived.Lib.BitFns
import Derived.RangeFuncCalls
import Derived.OrdersHeld
import Derived.Deep.RegionHeld
import Derived.OrdersIn
import Derived.BigRegionIn
import Derived.Deep.RegionHeld3
import Derived.Laws.OwnMore
import Derived.Deep.RegionWith
import Derived.Deep.RegionLaw
import Derived.Deep.DeepCutAuto
import Derived.Deep.CutBlock
namespace Go.Proofs.YtmejneobfkbgeaaGreatDoor.M

theorem norm_factor (y l : Nat) (h : Lib.bitLen y = l) (h0 : 0 < y) (h1 : y < 16777216) :
    1 ≤ l ∧ l ≤ 24 ∧ 0 < 2 ^ (24 - l) ∧ 2 ^ (24 - l) < 16777216 ∧ 8388608 ≤ y * 2 ^ (24 - l) ∧ (y + 1) * 2 ^ (24 - l) ≤ 16777216 := by
  obtain ⟨b1, b2, b3⟩ := Lib.bitLenAux_bounds 64 y (by omega) (by omega)
  change 1 ≤ Lib.bitLen y at b1
  change 2 ^ (Lib.bitLen y - 1) ≤ y at b2
  change y < 2 ^ Lib.bitLen y at b3
  rw [h] at b1 b2 b3
  have hl : l ≤ 24 := by
    have : l - 1 < 24 := (Nat.pow_lt_pow_iff_right (a := 2) (by decide)).1 (Nat.lt_of_le_of_lt b2 (by omega : y < 2 ^ 24))
    omega
  have e1 : 2 ^ l * 2 ^ (24 - l) = 16777216 := by rw [← Nat.pow_add, show l + (24 - l) = 24 by omega]
  have e2 : 2 ^ (l - 1) * 2 ^ (24 - l) = 8388608 := by rw [← Nat.pow_add, show l - 1 + (24 - l) = 23 by omega]
  refine ⟨b1, hl, Nat.pow_pos (by decide), ?_, ?_, ?_⟩
  · exact Nat.lt_of_le_of_lt (Nat.pow_le_pow_right (by decide) (by omega : 24 - l ≤ 23)) (by decide)
  · rw [← e2]; exact Nat.mul_le_mul_right _ b2
  · rw [← e1]; exact Nat.mul_le_mul_right _ b3

/-- The value of limbs with a given highest one. -/
theorem val_top {ys : List Int} {k : Nat} (hl : ys.length = k + 1) (hy : Lim ys) : el ys k * 16777216 ^ k ≤ val ys ∧ val ys < (el ys k + 1) * 16777216 ^ k := by
  have h1 := val_take_succ ys k (by omega)
  rw [List.take_of_length_le (by omega)] at h1
  have h2 := val_lt (hy.take k)
  have h3 := val_nonneg (hy.take k)
  rw [List.length_take, Nat.min_eq_left (by omega)] at h2
  rw [Int.add_mul, Int.mul_comm (el ys k)]
  omega

/-- Scaled by the factor, the divisor keeps its length and has its highest bit. -/
theorem scaled_divisor {ys ds : List Int} {n F : Nat} (hl : ys.length = n + 2) (hy : Lim ys) (hd : Lim ds) (hv : val ds = val ys * F) (h8 : 8388608 ≤ el ys (n + 1) * F) (h16 : (el ys (n + 1) + 1) * F ≤ 16777216)
    (hlen : ds.length = ys.length ∨ ds.length = ys.length + 1 ∧ 0 < el ds ys.length) : ds.length = n + 2 ∧ 8388608 ≤ el ds (n + 1) := by
  obtain ⟨t1, t2⟩ := val_top (k := n + 1) hl hy
  have hK := pow_pos (n + 1)
  have hF : (0 : Int) ≤ F := by omega
  have u1 : val ds < 16777216 * 16777216 ^ (n + 1) := by
    rcases Nat.eq_zero_or_pos F with rfl | hF0
    · omega
    · have a1 : val ys * F < (el ys (n + 1) + 1) * 16777216 ^ (n + 1) * F := Int.mul_lt_mul_of_pos_right t2 (by omega)
      have a2 : (el ys (n + 1) + 1) * 16777216 ^ (n + 1) * F = (el ys (n + 1) + 1) * F * 16777216 ^ (n + 1) := by rw [Int.mul_right_comm]
      have a3 : (el ys (n + 1) + 1) * F * 16777216 ^ (n + 1) ≤ 16777216 * 16777216 ^ (n + 1) := Int.mul_le_mul_of_nonneg_right h16 (by omega)
      omega
  have u2 : 8388608 * 16777216 ^ (n + 1) ≤ val ds := by
    have a1 : el ys (n + 1) * 16777216 ^ (n + 1) * F ≤ val ys * F := Int.mul_le_mul_of_nonneg_right t1 hF
    have a2 : el ys (n + 1) * 16777216 ^ (n + 1) * F = el ys (n + 1) * F * 16777216 ^ (n + 1) := by rw [Int.mul_right_comm]
    have a3 : 8388608 * 16777216 ^ (n + 1) ≤ el ys (n + 1) * F * 16777216 ^ (n + 1) := Int.mul_le_mul_of_nonneg_right h8 (by omega)
    omega
  have hlen2 : ds.length = n + 2 := by
    rcases hlen with h | ⟨h, h0⟩
    · omega
    · exfalso
      rw [hl] at h h0
      have t3 := (val_top (k := n + 2) h hd).1
      have : 1 * 16777216 ^ (n + 2) ≤ el ds (n + 2) * 16777216 ^ (n + 2) := Int.mul_le_mul_of_nonneg_right (by omega) (Int.le_of_lt (pow_pos _))
      have e : (16777216 : Int) ^ (n + 2) = 16777216 * 16777216 ^ (n + 1) := by rw [Int.pow_succ, Int.mul_comm]
      omega
  refine ⟨hlen2, ?_⟩
  have t4 := (val_top (k := n + 1) hlen2 hd).2
  have : 8388608 * 16777216 ^ (n + 1) < (el ds (n + 1) + 1) * 16777216 ^ (n + 1) := by omega
  have := Int.lt_of_mul_lt_mul_right this (by omega)
  omega

/-- What is left above the first place to be taken: less than the divisor. -/
theorem start_lt {xs ys rs ds : List Int} {n m F : Nat} (hla : xs.length = n + 2 + m) (hlb : ys.length = n + 2) (hx : Lim xs) (hy : Lim ys) (hr : Lim rs) (htop : 0 < el ys (n + 1)) (hF : 0 < F)
    (hvr : val rs = val xs * F) (hvd : val ds = val ys * F) (hlr : m + 1 ≤ rs.length) : val (rs.drop (m + 1)) < val ds := by
  have h1 := val_split rs (m + 1)
  rw [Nat.min_eq_left hlr] at h1
  have h2 := val_nonneg (hr.take (m + 1))
  have h3 := val_lt hx
  rw [hla] at h3
  have h4 := (val_top (k := n + 1) hlb hy).1
  have hK := pow_pos (n + 1)
  have h5 : 1 * 16777216 ^ (n + 1) ≤ el ys (n + 1) * 16777216 ^ (n + 1) := Int.mul_le_mul_of_nonneg_right (by omega) (by omega)
  have e : (16777216 : Int) ^ (n + 2 + m) = 16777216 ^ (m + 1) * 16777216 ^ (n + 1) := by rw [← Int.pow_add]; congr 1; omega
  rw [e] at h3
  have hM := pow_pos (m + 1)
  have h6 : val xs * F < 16777216 ^ (m + 1) * 16777216 ^ (n + 1) * F := Int.mul_lt_mul_of_pos_right h3 (by omega)
  have h7 : (16777216 : Int) ^ (m + 1) * 16777216 ^ (n + 1) * F ≤ 16777216 ^ (m + 1) * val ds := by
    rw [hvd, Int.mul_assoc]
    refine Int.mul_le_mul_of_nonneg_left ?_ (by omega)
    exact Int.mul_le_mul_of_nonneg_right (by omega) (by omega)
  have h8 : 16777216 ^ (m + 1) * val (rs.drop (m + 1)) < 16777216 ^ (m + 1) * val ds := by omega
  exact Int.lt_of_mul_lt_mul_left h8 (by omega)

theorem val_drop_succ (rs : List Int) (k : Nat) (hk : k < rs.length) : val (rs.drop k) = el rs k + 16777216 * val (rs.drop (k + 1)) := by
  rw [drop_el rs k hk, val]

/-- The part from which a place is taken, and the limbs above it. -/
theorem part_lt {rs : List Int} {k n : Nat} {D : Int} (hr : Lim rs) (hk : k + (n + 2 + 1) ≤ rs.length) (hD : D ≤ 16777216 ^ (n + 2)) (h : val (rs.drop (k + 1)) < D) :
    val (rs.drop (k + (n + 2 + 1))) = 0 ∧ val ((rs.drop k).take (n + 2 + 1)) = val (rs.drop k) ∧ val (rs.drop k) < D * 16777216 := by
  have h1 := val_append ((rs.drop (k + 1)).take (n + 2)) ((rs.drop (k + 1)).drop (n + 2))
  rw [List.take_append_drop, List.drop_drop, List.length_take, List.length_drop, Nat.min_eq_left (by omega), show k + 1 + (n + 2) = k + (n + 2 + 1) by omega] at h1
  have h2 := val_nonneg ((hr.drop (k + 1)).take (n + 2))
  have h3 := val_nonneg (hr.drop (k + (n + 2 + 1)))
  have hP := pow_pos (n + 2)
  have h0 : val (rs.drop (k + (n + 2 + 1))) = 0 := by
    rcases Int.lt_or_eq_of_le h3 with h4 | h4
    · have : 16777216 ^ (n + 2) * 1 ≤ (16777216 : Int) ^ (n + 2) * val (rs.drop (k + (n + 2 + 1))) := Int.mul_le_mul_of_nonneg_left (by omega) (by omega)
      omega
    · exact h4.symm
  have h5 := val_append ((rs.drop k).take (n + 2 + 1)) ((rs.drop k).drop (n + 2 + 1))
  rw [List.take_append_drop, List.drop_drop, h0, Int.mul_zero, Int.add_zero] at h5
  have h6 := val_drop_succ rs k (by omega)
  have h7 := hr.get k
  exact ⟨h0, h5.symm, by omega⟩

theorem split3 (rs : List Int) (k n : Nat) : rs.take k ++ (rs.drop k).take n ++ rs.drop (k + n) = rs := by
  rw [List.append_assoc, ← List.drop_drop, List.take_append_drop, List.take_append_drop]

/-- One place of the quotient. -/
theorem long_step {rs qs ts : List Int} {k n : Nat} {D A : Int} (hk : k + (n + 2 + 1) ≤ rs.length) (hq : k < qs.length) (hts : ts.length = n + 2 + 1) (hD : 0 < D)
    (h0 : val (rs.drop (k + (n + 2 + 1))) = 0) (hp : val ((rs.drop k).take (n + 2 + 1)) = val (rs.drop k)) (hv : val ts = val ((rs.drop k).take (n + 2 + 1)) % D)
    (hA : A = val rs + D * 16777216 ^ (k + 1) * val (qs.drop (k + 1))) :
    A = val (rs.take k ++ ts ++ rs.drop (k + (n + 2 + 1))) + D * 16777216 ^ k * val ((qs.set k (val ((rs.drop k).take (n + 2 + 1)) / D)).drop k) ∧
    val ((rs.take k ++ ts ++ rs.drop (k + (n + 2 + 1))).drop k) < D := by
  have lk : (rs.take k).length = k := by rw [List.length_take]; omega
  have e1 : val (rs.take k ++ ts ++ rs.drop (k + (n + 2 + 1))) = val (rs.take k) + 16777216 ^ k * val ts := by
    rw [val_append, val_append, h0, Int.mul_zero, Int.add_zero, lk]
  have e2 := val_split rs k
  rw [Nat.min_eq_left (by omega), ← hp] at e2
  have e3 : val ((rs.take k ++ ts ++ rs.drop (k + (n + 2 + 1))).drop k) = val ts := by
    rw [List.append_assoc, List.drop_left' lk, val_append, h0, Int.mul_zero, Int.add_zero]
  have e4 : val ((qs.set k (val ((rs.drop k).take (n + 2 + 1)) / D)).drop k) = val ((rs.drop k).take (n + 2 + 1)) / D + 16777216 * val (qs.drop (k + 1)) := by
    rw [val_drop_succ _ k (by rw [List.length_set]; exact hq), el_set _ _ _ _ hq, if_pos rfl, List.drop_set_of_lt (by omega)]
  have e5 := Int.mul_ediv_add_emod (val ((rs.drop k).take (n + 2 + 1))) D
  rw [← hv] at e5
  refine ⟨?_, by rw [e3, hv]; exact Int.emod_lt_of_pos _ hD⟩
  rw [hA, e1, e2, e4, Int.pow_succ]
  generalize val ((rs.drop k).take (n + 2 + 1)) / D = q at *
  rw [← e5]
  generalize (16777216 : Int) ^ k = P
  generalize val (qs.drop (k + 1)) = Q
  generalize val ts = T
  generalize val (rs.take k) = U
  clear hA e1 e2 e3 e4 e5 hv hp h0
  grind

theorem long_end {xs ys rs qs : List Int} {F : Nat} (hF : 0 < F) (hr : Lim rs) (hA : val xs * F = val rs + val ys * F * val qs) (hlt : val rs < val ys * F) : val qs = val xs / val ys ∧ val (shr (F : Int) rs).2 = val xs % val ys := by
  have hF2 : (0 : Int) < F := by omega
  have h0 := val_nonneg hr
  have hY : 0 < val ys * F := by omega
  have hy : 0 < val ys := by
    rcases Int.lt_or_le 0 (val ys) with h | h
    · exact h
    · have := Int.mul_nonpos_of_nonpos_of_nonneg h (Int.le_of_lt hF2); omega
  have h1 := (Int.ediv_emod_unique (a := val xs * F) (r := val rs) (q := val qs) hY).2 ⟨by rw [hA], h0, hlt⟩
  have h2 : val xs * F / (val ys * F) = val xs / val ys := Int.mul_ediv_mul_of_pos_left _ _ hF2
  have h3 := shr_val (F : Int) rs
  have h4 := shr_rest (F : Int) hF2 rs
  refine ⟨by rw [← h2]; exact h1.1.symm, ?_⟩
  have h5 := (Int.ediv_emod_unique (a := val rs) (r := (shr (F : Int) rs).1) (q := val (shr (F : Int) rs).2) hF2).2 ⟨by rw [Int.mul_comm]; omega, h4.1, h4.2⟩
  rw [← h5.1, ← h1.2, Int.mul_comm (val xs), Int.mul_comm (val ys), Int.mul_emod_mul_of_pos _ _ hF2, Int.mul_ediv_cancel_left _ (by omega)]
end Go.Proofs.YtmejneobfkbgeaaGreatDoor.M

namespace Go.Proofs.YtmejneobfkbgeaaGreatDoor
open Go Go.RowKit Go.Shelf
attribute [local go_sem] mask24

def SclFull (w : World) (B : Nat) (zs : List Int) (f c0 : Nat) (e : Ending) (W : World) : Prop :=
  ∃ a' cap' ys, e = .returned (.slice a' ys.length cap') ∧ Own W B (.slice a' ys.length cap') ys ∧ Below B w W ∧ M.Lim ys ∧ ys.length ≤ zs.length + 1 ∧ M.val ys = M.val zs * f + c0 ∧ (ys.length = zs.length ∨ ys.length = zs.length + 1 ∧ 0 < M.el ys zs.length)

set_option maxRecDepth 100000 in
set_option maxHeartbeats 1000000 in
/-- **nat.scale**, with the length of what it leaves. -/
theorem scale_full (B : Nat) (a : Option Addr) (cap : Nat) (zs : List Int) (f c0 : Nat) (w : World) (hB : B ≤ w.heap.size) (hf : f < 16777216) (hc0 : c0 < 16777216) (hlim : M.Lim zs) (hlen : zs.length < 100000) (hown : Own w B (.slice a zs.length cap) zs) :
    Calls Tryz.prog 140 #[.slice a zs.length cap, .int .i64 (f : Int), .int .i64 (c0 : Int)] w (SclFull w B zs f c0) := by
  have HL := Lib.hid hlim
  have hm := hown.rowAt.room
  have hm2 := hown.rowAt.most
  have HO0 := Lib.hid hown
  clear hlim hown
  go_enter Tryz.func140, Tryz.ntmps140
  go_wp2
  go_loopw [7, 13] (fun c i wr => SclRel w B a cap zs f c0 c i wr) (fun _ i _ => zs.length - (intOf i).toNat)
  case atStart => exact ⟨0, zs, c0, rfl, rfl, Nat.zero_le _, rfl, HL.out, by omega, by omega, rfl, by simp [M.val], HO0.out, Below.refl _ _⟩
  case round =>
    obtain ⟨k, ys, q, rfl, rfl, hk, hlen2, hlim, hq0, hq1, hdrop, hval, hown, hbW⟩ := hrel
    have HLN := Lib.hid hlen2
    have HD := Lib.hid hdrop
    have HV := Lib.hid hval
    have HLIM := Lib.hid hlim
    have HO := Lib.hid hown
    have HB := Lib.hid hbW
    clear hlen2 hdrop hval hlim hown hbW
    have hbs := HB.out.size
    by_cases hlt : k < zs.length
    · obtain ⟨g, rfl, hgB, hgW, h3, h4, hcz, hfz⟩ := HO.out.at2 k (by rw [HLN.out]; exact hlt)
      have hel := HL.out.get k
      have hez : M.el ys k = M.el zs k := by
        have := congrArg (fun l => M.el l 0) HD.out
        simpa only [M.el_drop, Nat.add_zero] using this
      rw [hez] at hcz
      have HEZ := Lib.hid hez
      clear hez
      have hmb := M.mul_bound hel (b := (f : Int)) (by omega)
      go_wp2
      go_roundw
      case rel =>
        have hkl : k < ys.length := by rw [HLN.out]; exact hlt
        refine ⟨k + 1, ys.set k ((q + M.el zs k * (f : Int)) % 16777216), (q + M.el zs k * (f : Int)) / 16777216, by go_num, rfl, by omega, by rw [List.length_set]; exact HLN.out, HLIM.out.set _ (by omega) (by omega), by omega, by omega, ?_, ?_, ?_, HB.out.setCell (p := ⟨g, k, none⟩) hgB _⟩
        · rw [List.drop_set_of_lt (by omega)]
          have := congrArg (List.drop 1) HD.out
          rwa [List.drop_drop, List.drop_drop] at this
        · rw [M.val_set_succ _ _ _ hkl, M.val_take_succ', Int.pow_succ]
          have h1 := M.pow_split (16777216 ^ k) (q + M.el zs k * (f : Int))
          have h2 := HV.out
          rw [Int.mul_add, ← Int.mul_assoc] at h1
          rw [Int.add_mul]
          omega
        · have := HO.out
          rw [← HLN.out] at this ⊢
          exact this.set k _
      case measure => simp [intOf]; omega
    · have hk' : k = zs.length := by omega
      have hv := HV.out
      rw [List.take_of_length_le (by rw [HLN.out]; omega), List.take_of_length_le (by omega), hk'] at hv
      have HV2 := Lib.hid hv
      have HK := Lib.hid hk'
      clear hv hk'
      by_cases hq : 0 < q
      · go_wp2_with (at_builtin; refine wpList_app1 rfl _ _ rfl rfl (HO.out.alloc _) rfl (cell_new _ _ _) (by rw [HLN.out]; omega) (by simp; omega) ?_; intro a' cap' W' hown' hb')
        go_ret
        refine ⟨a', cap', ys ++ [q], by rw [List.length_append, HLN.out]; rfl, hown', HB.out.trans (((Below.refl B wr).alloc (by omega) _).trans hb'), HLIM.out.append (M.Lim.cons hq0 hq1 M.Lim.nil), by simp [HLN.out], ?_⟩
        constructor
        · rw [M.val_append, HLN.out]
          simpa [M.val] using HV2.out
        · refine .inr ⟨by simp [HLN.out], ?_⟩
          rw [M.el_append_right (by rw [HLN.out]; omega), HLN.out, Nat.sub_self]
          exact hq
      · have hq2 : q = 0 := by omega
        have hv := HV2.out
        rw [hq2] at hv
        have HV3 := Lib.hid hv
        clear hv hq2
        go_wp2
        go_ret
        exact ⟨a, cap, ys, by rw [HLN.out]; rfl, by rw [HLN.out]; exact HO.out, HB.out, HLIM.out, by rw [HLN.out]; omega, by simpa using HV3.out, .inl HLN.out⟩
end Go.Proofs.YtmejneobfkbgeaaGreatDoor

namespace Go.Proofs.YtmejneobfkbgeaaGreatDoor
open Go

/-- No operation of the region defers a call. -/
def noDefer (ops : Array Oper) : Bool := ops.all fun o => match o.op with | .defer _ => false | _ => true
theorem noDefer_at {ops : Array Oper} (h : noDefer ops = true) {i : Nat} {o : Oper} (ho : ops[i]? = some o) : ∀ c, o.op ≠ .defer c := by
  intro c e
  have h1 := Array.all_eq_true_iff_forall_mem.1 h o (Array.mem_of_getElem? ho)
  simp [e] at h1

theorem oper_round {P : Program} {n l : Nat} {o : Oper} {a : Act} {w : World} {K : Act → World → Prop} {Q : Exit → Act → World → Prop} (hd : ∀ c, o.op ≠ .defer c) (h : o.wp P a w K Q) :
    o.wpIn (Fence.wide.inRound l) n P a w K Q := by
  unfold Oper.wp at h
  unfold Oper.wpIn
  refine ⟨fun f _ => trivial, ?_⟩
  rw [Oper.semAt_eq _ _ _ hd]
  generalize (execOp a.eval o).run P w = r at *
  cases r with
  | ok x w' =>
    cases x with
    | value v => exact h
    | skip => exact h
    | defer d => exact h
    | enter f args => exact ⟨(fun h => (by cases h)), callsIn_wide.2 h⟩
    | row row args =>
      refine ⟨(fun h => (by cases h)), fun c cs _ => ?_⟩
      obtain ⟨v, w', r, s⟩ := h c cs
      exact ⟨v, w', r, stepsIn_wide.2 s⟩
    | _ => exact absurd h (by simp [Oper.upon])
  | halt x w' => cases x <;> first | exact h | exact absurd h (by simp [Oper.upon])

theorem wpOp_round {P : Program} {n l : Nat} {ops : Array Oper} {Q : Exit → Act → World → Prop} (hd : noDefer ops = true) (hout : ¬ LetsOut Q) {i : Nat} {K : Act → World → Prop} {a : Act} {w : World} (h : wpOp P ops Q i K a w) :
    wpOpIn (Fence.wide.inRound l) n P ops Q i K a w := by
  unfold wpOp at h
  unfold wpOpIn
  cases ho : ops[i]? with
  | none => rw [ho] at h; exact h
  | some o =>
    rw [ho] at h
    simp only at h ⊢
    by_cases hw : Region.wanted o (yielded ops a.tmps) = true
    · rw [if_pos hw] at h ⊢
      rcases h with h | ⟨_, h⟩
      · exact oper_round (noDefer_at hd ho) h
      · exact absurd h hout
    · rw [if_neg hw] at h ⊢
      exact ⟨fun f _ => trivial, h⟩

theorem wpAny_round {P : Program} {n l : Nat} {md : Region.Mode} {ops : Array Oper} {Q : Exit → Act → World → Prop} (hd : noDefer ops = true) (hout : ¬ LetsOut Q) :
    ∀ (fuel : Nat) (listed : Array Bool) (a : Act) (w : World), wpAny P md ops Q fuel listed a w → wpAnyIn (Fence.wide.inRound l) n P md ops Q fuel listed a w
  | 0, _, _, _, h => h
  | fuel + 1, _, _, _, h => ⟨h.1, fun i hi => wpOpIn_mono (fun a' w' h' => wpAny_round hd hout fuel _ a' w' h') (wpOp_round hd hout (h.2 i hi))⟩

/-- A region in a round, by the plain walk's law. -/
theorem wpIn_region_round {P : Program} {n l id : Nat} {ops : Array Oper} {Q : Exit → Act → World → Prop} {a : Act} {w : World} (hm : P.follows .mixedOrders = true) (hd : noDefer ops = true) (hout : ¬ LetsOut Q)
    (h : wpAny P .any ops Q ops.size (Array.replicate ops.size false) a w.drew) : (Code.region id ops true).wpIn (Fence.wide.inRound l) n P Q a w :=
  wpIn_region_any hm (wpAny_round hd hout _ _ _ _ h)

/-- .. and with cells that the operations read held. -/
theorem wpIn_region_held {P : Program} {n l id : Nat} {ops : Array Oper} {Q : Exit → Act → World → Prop} {S : World → Prop} {a : Act} {w : World} (hm : P.follows .mixedOrders = true) (hd : noDefer ops = true) (hout : ¬ LetsOut Q) (hS : S w.drew)
    (h : S w.drew → wpAnyH P .any ops Q S ops.size (Array.replicate ops.size false) a w.drew) : (Code.region id ops true).wpIn (Fence.wide.inRound l) n P Q a w :=
  wpIn_region_round hm hd hout (wpAny_of_held _ _ _ _ (h hS))

/-- An operation that is taken first, its slot named: so the state behind it can be laid out anew. -/
theorem wpAnyH_at {P : Program} {md : Region.Mode} {ops : Array Oper} {Q : Exit → Act → World → Prop} {S : World → Prop} (i : Nat) (d : Option Tmp) {oi : Oper} {v : Value} {fuel : Nat} {listed : Array Bool} {a : Act} {w : World} (hi : ops[i]? = some oi) (hd : oi.dst = d)
    (hs : Region.noSelect ops = true) (hf : Region.free md ops listed i = true) (hr : (Region.ready md ops listed).contains i = true)
    (hQ : ∀ c a w, Q (.panic c) (a.put d v) w → Q (.panic c) a w) (hy : YieldsIf P ops S oi v a) (hS : S w)
    (h : wpAnyH P md ops Q S fuel (listed.setIfInBounds i true) (a.put d v) w) : wpAnyH P md ops Q S (fuel + 1) listed a w := by
  subst hd
  exact wpAnyH_take hi hs hf hr hQ hy hS h
end Go.Proofs.YtmejneobfkbgeaaGreatDoor

namespace Go.Proofs.YtmejneobfkbgeaaGreatDoor
open Go Go.RowKit Go.Shelf
attribute [local go_sem] Oper.semAt_some

/-- What is read at a lies in memory made from block B on. -/
def Fresh (B : Nat) (a : Option Addr) (zs : List Int) : Prop := ∀ b off, a = some ⟨b, off, none⟩ → 0 < zs.length → B ≤ b
theorem Own.fresh {W : World} {B n cap : Nat} {a : Option Addr} {zs : List Int} (h : Own W B (.slice a n cap) zs) : Fresh B a zs := by
  intro b off e hl
  obtain ⟨g, e2, hB, _⟩ := h.at2 0 hl
  rw [e] at e2
  cases e2
  exact hB
theorem Row.setFresh {W : World} {B cap : Nat} {a : Option Addr} {zs : List Int} (h : Row W a zs cap) (hf : Fresh B a zs) {p : Addr} (hp : p.block < B) (v : Value) : Row (W.setCell p v) a zs cap :=
  ⟨h.room, h.most, fun j hj => by
    obtain ⟨b, off, e, hc⟩ := h.el j hj
    have hb := hf b off e (by omega)
    exact ⟨b, off, e, (cell_other v (show b ≠ p.block by omega)).trans hc⟩⟩

def LongPost (w : World) (xs ys : List Int) (e : Ending) (W : World) : Prop :=
  ∃ a1 c1 qs a2 c2 rs, e = .returned (.tuple #[.slice a1 qs.length c1, .slice a2 rs.length c2]) ∧ Row W a1 qs c1 ∧ Row W a2 rs c2 ∧ M.Lim qs ∧ M.Lim rs ∧
    M.val qs = M.val xs / M.val ys ∧ M.val rs = M.val xs % M.val ys ∧ Fresh w.heap.size a1 qs ∧ Fresh w.heap.size a2 rs ∧ Below w.heap.size w W

theorem cell_below {w W : World} {p : Addr} {v : Value} (hb : Below w.heap.size w W) (h : w.cell? p = some v) : W.cell? p = some v := (hb.cell (lt_of_cell h)).trans h
theorem frozen_below {w W : World} {p : Addr} {v : Value} {t : Bool} (hb : Below w.heap.size w W) (h : w.cell? p = some v) (hf : w.frozen? p = t) : W.frozen? p = t := (hb.frozen (lt_of_cell h)).trans hf

theorem Own.belowAt {W W' : World} {B B0 g L cap : Nat} {zs : List Int} (h : Own W B (.slice (some ⟨g, 0, none⟩) L cap) zs) (hg : g < B0) (hb : Below B0 W W') : Own W' B (.slice (some ⟨g, 0, none⟩) L cap) zs := by
  refine ⟨h.1, ?_⟩
  rcases h.2 with hn | ⟨g', cap', cur, hv, hB, hgg, rest⟩
  · exact .inl hn
  · refine .inr ⟨g', cap', cur, hv, hB, ?_, rest⟩
    cases hv
    rw [hb.block _ hg]
    exact hgg
theorem Own.grownAt {W W' : World} {B g r L cap : Nat} {zs : List Int} (h : Own W B (.slice (some ⟨g, 0, none⟩) L cap) zs) (hg : W.grownBy W' (some r)) (hne : g ≠ r) : Own W' B (.slice (some ⟨g, 0, none⟩) L cap) zs :=
  World.ownsRow.kept h hg (.inr (by intro e; cases e; exact hne rfl))
theorem cell_grown {W W' : World} {r : Nat} {a : Addr} {v : Value} (hg : W.grownBy W' (some r)) (hne : a.block ≠ r) (h : W.cell? a = some v) : W'.cell? a = some v :=
  (World.cell?_of_block (hg.block a.block (lt_of_cell h) (by intro e; cases e; exact hne rfl))).trans h
theorem frozen_grown {W W' : World} {r : Nat} {a : Addr} {v : Value} {t : Bool} (hg : W.grownBy W' (some r)) (hne : a.block ≠ r) (h : W.cell? a = some v) (hf : W.frozen? a = t) : W'.frozen? a = t :=
  (World.frozen?_of_block (hg.block a.block (lt_of_cell h) (by intro e; cases e; exact hne rfl))).trans hf

/-- What holds in divideLong's loop when k places are still to come. -/
def LongI (w : World) (p7 gq gr gd bb bo n m L pr pd cb bs : Nat) (ds : List Int) (A : Int) (k : Nat) (W : World) : Prop :=
  ((W.cell? ⟨w.heap.size + 1, 0, none⟩ = some (.slice (some ⟨gq, 0, none⟩) (m + 1) (m + 1)) ∧ W.cell? ⟨w.heap.size + 1 + 1, 0, none⟩ = some (.slice (some ⟨gr, 0, none⟩) L pr) ∧
    W.cell? ⟨w.heap.size, 0, none⟩ = some (.slice (some ⟨bb, bo, none⟩) (n + 2) cb) ∧ W.cell? ⟨p7, 0, none⟩ = some (.slice (some ⟨gd, 0, none⟩) (n + 2) pd)) ∧
    W.frozen? ⟨w.heap.size + 1, 0, none⟩ = false ∧ W.frozen? ⟨w.heap.size + 1 + 1, 0, none⟩ = false ∧ W.cell? ⟨bs, 0, none⟩ = some (.slice (some ⟨gq, 0, none⟩) (m + 1) (m + 1))) ∧
  ∃ qs rs, Own W w.heap.size (.slice (some ⟨gq, 0, none⟩) (m + 1) (m + 1)) qs ∧ Own W w.heap.size (.slice (some ⟨gr, 0, none⟩) L pr) rs ∧ Own W w.heap.size (.slice (some ⟨gd, 0, none⟩) (n + 2) pd) ds ∧ M.Lim qs ∧ M.Lim rs ∧
    qs.length = m + 1 ∧ rs.length = L ∧ (∀ j : Nat, j < k → M.el qs j = 0) ∧ A = M.val rs + M.val ds * 16777216 ^ k * M.val (qs.drop k) ∧ M.val (rs.drop k) < M.val ds ∧ Below w.heap.size w W

theorem longI_own {w : World} {p7 gq gr gd bb bo n m L pr pd cb bs : Nat} {ds : List Int} {A : Int} {B0 : Nat} (hB0 : w.heap.size ≤ B0) : OwnFrom B0 (LongI w p7 gq gr gd bb bo n m L pr pd cb bs ds A) := by
  refine OwnFrom.and (Own.from (fun _ _ _ _ hs hg hr => ⟨⟨cell_kept hs.1.1 hg hr, cell_kept hs.1.2.1 hg hr, cell_kept hs.1.2.2.1 hg hr, cell_kept hs.1.2.2.2 hg hr⟩, (frozen_kept hs.1.1 hg hr).trans hs.2.1, (frozen_kept hs.1.2.1 hg hr).trans hs.2.2.1, cell_kept hs.2.2.2 hg hr⟩) _) ?_
  rintro s W W' row ⟨qs, rs, h1, h2, h3, h4⟩ hg hr
  refine ⟨qs, rs, ownFrom_own (B0 := B0) (fun (_ : Unit) => qs) () _ _ _ h1 hg hr, ownFrom_own (B0 := B0) (fun (_ : Unit) => rs) () _ _ _ h2 hg hr, ownFrom_own (B0 := B0) (fun (_ : Unit) => ds) () _ _ _ h3 hg hr, h4.1, h4.2.1, h4.2.2.1, h4.2.2.2.1, h4.2.2.2.2.1, h4.2.2.2.2.2.1, h4.2.2.2.2.2.2.1, ?_⟩
  exact ownFrom_below (β := Unit) (Nat.le_refl _) hB0 () _ _ _ h4.2.2.2.2.2.2.2 hg hr

set_option maxRecDepth 100000 in
set_option maxHeartbeats 1000000 in
theorem divideLong_any (a b : Option Addr) (ca cb : Nat) (xs ys : List Int) (n m : Nat) (w : World) (hla : xs.length = n + 2 + m) (hlb : ys.length = n + 2) (hx : M.Lim xs) (hy : M.Lim ys) (htop : 0 < M.el ys (n + 1))
    (hsz : n + 2 + m < 10000) (hA : Row w a xs ca) (hB : Row w b ys cb) :
    Calls Tryz.prog 151 #[.slice a (n + 2 + m) ca, .slice b (n + 2) cb] w (LongPost w xs ys) := by
  have hB3 : Below w.heap.size w (((w.alloc (.cells #[.slice b (n + 2) cb] 24)).alloc (.cells #[.slice none 0 0] 24)).alloc (.cells #[.slice none 0 0] 24)) := (((Below.refl _ w).alloc (Nat.le_refl _) _).alloc (by simp) _).alloc (by simp; omega) _
  obtain ⟨bb, bo, rfl, hc0⟩ := hB.el (n + 1) (by omega)
  have hel := hy.get (n + 1)
  obtain ⟨t, ht⟩ : ∃ t, M.el ys (n + 1) = t := ⟨_, rfl⟩
  rw [ht] at hc0 hel htop
  obtain ⟨T, rfl⟩ := Int.eq_ofNat_of_zero_le hel.1
  obtain ⟨l, hl⟩ : ∃ l, Lib.bitLen T = l := ⟨_, rfl⟩
  obtain ⟨k1, k2, k3, k4, k5, k6⟩ := M.norm_factor T l hl (by omega) (by omega)
  have hbl := fun W : World => bitsLen_any (T : Int) W (by omega) (by omega)
  rw [Int.toNat_natCast, hl] at hbl
  obtain ⟨F, hF⟩ : ∃ F : Nat, 2 ^ (24 - l) = F := ⟨_, rfl⟩
  rw [hF] at k3 k4 k5 k6
  have c1 := (hB3.cell (p := ⟨bb, bo + (n + 1), none⟩) (lt_of_cell hc0)).trans hc0
  have HBL := Lib.hid hbl
  have HF := Lib.hid hF
  have hrb := hB.room
  have hmb := hB.most
  rw [hlb] at hrb
  have hra := hA.room
  have hma := hA.most
  rw [hla] at hra
  have HB3 := Lib.hid hB3
  have HA := Lib.hid hA
  have HB := Lib.hid hB
  have HX := Lib.hid hx
  have HY := Lib.hid hy
  have HT := Lib.hid ht
  have HLA := Lib.hid hla
  have HLB := Lib.hid hlb
  clear hB3 hA hB hx hy ht hla hlb hc0 hbl hF hl
  refine (callsIn_wide (n := 6)).1 ?_
  refine callsIn_of_wp_marks Tryz.func151 rfl trivial ?_ rfl
  refine wpIn_wide.2 ?_
  simp only [Tryz.ntmps151, List.size_toArray, List.length_cons, List.length_nil, Nat.reduceAdd, Nat.reduceSub, Array.replicate_succ, Array.replicate_zero, List.push_toArray, List.append_toArray, List.nil_append, List.cons_append]
  go_wp2_with fail
  refine (HBL.out _).mono ?_
  rintro e w' ⟨rfl, rfl⟩
  go_wp2_with fail
  have hw64 : wrap64 ((2 : Int) ^ (24 - l)) = (F : Int) := by
    have h1 := HF.out
    have h2 : ((2 ^ (24 - l) : Nat) : Int) = (2 : Int) ^ (24 - l) := by rw [Int.natCast_pow]; rfl
    rw [← h2, h1]; unfold wrap64; omega
  rw [hw64]
  clear hw64 c1
  have d0 := cell_new w (.slice (some ⟨bb, bo, none⟩) (n + 2) cb) 24
  have d1 := cell_new (w.alloc (.cells #[.slice (some ⟨bb, bo, none⟩) (n + 2) cb] 24)) (.slice none 0 0) 24
  have f1 := frozen_new (w.alloc (.cells #[.slice (some ⟨bb, bo, none⟩) (n + 2) cb] 24)) (.slice none 0 0) 24
  have d2 := cell_new ((w.alloc (.cells #[.slice (some ⟨bb, bo, none⟩) (n + 2) cb] 24)).alloc (.cells #[.slice none 0 0] 24)) (.slice none 0 0) 24
  have f2 := frozen_new ((w.alloc (.cells #[.slice (some ⟨bb, bo, none⟩) (n + 2) cb] 24)).alloc (.cells #[.slice none 0 0] 24)) (.slice none 0 0) 24
  simp only [World.size_alloc] at d1 f1 d2 f2
  have HC3 := Lib.hid (And.intro (cell_later (.cells #[.slice none 0 0] 24) (cell_later (.cells #[.slice none 0 0] 24) d0)) (And.intro (cell_later (.cells #[.slice none 0 0] 24) d1) (And.intro (frozen_later (.cells #[.slice none 0 0] 24) d1 f1) (And.intro d2 f2))))
  clear d0 d1 f1 d2 f2
  have HB' := Lib.hid (HB.out.below HB3.out)
  have HA' := Lib.hid (HA.out.below HB3.out)
  have hs3 : (((w.alloc (.cells #[.slice (some ⟨bb, bo, none⟩) (n + 2) cb] 24)).alloc (.cells #[.slice none 0 0] 24)).alloc (.cells #[.slice none 0 0] 24)).heap.size = w.heap.size + 3 := by simp
  generalize (((w.alloc (.cells #[.slice (some ⟨bb, bo, none⟩) (n + 2) cb] 24)).alloc (.cells #[.slice none 0 0] 24)).alloc (.cells #[.slice none 0 0] 24)) = w3 at *
  clear HB HA
  have hcl := clone_any _ ys cb w3 HB'.out (by rw [HLB.out]; omega) (by rw [HLB.out]; omega)
  rw [HLB.out] at hcl
  refine hcl.mono ?_
  clear hcl
  rintro e w4 ⟨a4, p4, rfl, ho4, hb4⟩
  have hsc := scale_full w3.heap.size a4 p4 ys F 0 w4 hb4.size k4 (by omega) HY.out (by rw [HLB.out]; omega) (by rw [HLB.out]; exact ho4)
  rw [HLB.out] at hsc
  have HSC := Lib.hid hsc
  have HB4 := Lib.hid hb4
  clear hsc hb4 ho4
  go_wp2_with fail
  refine HSC.out.mono ?_
  rintro e w5 ⟨a5, p5, ds, rfl, ho5, hb5, hlimd, _, hvd, hld⟩
  have hvd2 : M.val ds = M.val ys * (F : Int) := by rw [hvd]; simp
  obtain ⟨hld, htopd⟩ := M.scaled_divisor (F := F) HLB.out HY.out hlimd hvd2 (by rw [HT.out, ← Int.natCast_mul]; omega) (by rw [HT.out, show ((T : Int) + 1) = ((T + 1 : Nat) : Int) from rfl, ← Int.natCast_mul]; omega) hld
  rw [hld] at ho5 ⊢
  obtain ⟨gd, rfl, hgd1, hgd2, _⟩ := ho5.at2 0 (by omega)
  have HLD := Lib.hid hld
  have HVD := Lib.hid hvd2
  have HLIMD := Lib.hid hlimd
  have hb35 := HB4.out.trans (hb5.mono (Nat.le_refl _))
  have HB5 := Lib.hid hb35
  have hs5 := hb35.size
  have HC5 := Lib.hid (And.intro (cell_below hb35 HC3.out.1) (And.intro (cell_below hb35 HC3.out.2.1) (And.intro (frozen_below hb35 HC3.out.2.1 HC3.out.2.2.1) (And.intro (cell_below hb35 HC3.out.2.2.2.1) (frozen_below hb35 HC3.out.2.2.2.1 HC3.out.2.2.2.2)))))
  have HA5 := Lib.hid (HA'.out.below hb35)
  have HO5 := Lib.hid ho5
  clear hld hvd hvd2 hlimd hb35 hb5 ho5 HC3 HB4 HSC HA'
  go_wp2_with fail
  have d7 := cell_new w5 (.slice (some ⟨gd, 0, none⟩) (n + 2) p5) 24
  have hb56 := (Below.refl w5.heap.size w5).alloc (Nat.le_refl _) (.cells #[.slice (some ⟨gd, 0, none⟩) (n + 2) p5] 24)
  have HC6 := Lib.hid (And.intro d7 (And.intro (cell_below hb56 HC5.out.1) (And.intro (cell_below hb56 HC5.out.2.1) (And.intro (frozen_below hb56 HC5.out.2.1 HC5.out.2.2.1) (And.intro (cell_below hb56 HC5.out.2.2.2.1) (frozen_below hb56 HC5.out.2.2.2.1 HC5.out.2.2.2.2))))))
  have HA6 := Lib.hid (HA5.out.below hb56)
  have HO6 := Lib.hid (HO5.out.below hb56)
  have HB6 := Lib.hid (HB5.out.trans (hb56.mono (by omega)))
  have hs6 : (w5.alloc (.cells #[.slice (some ⟨gd, 0, none⟩) (n + 2) p5] 24)).heap.size = w5.heap.size + 1 := by simp
  clear d7 hb56 HC5 HA5 HO5 HB5
  generalize w5.alloc (.cells #[.slice (some ⟨gd, 0, none⟩) (n + 2) p5] 24) = w6 at *
  have hcl := clone_any _ xs ca w6 HA6.out (by rw [HLA.out]; omega) (by rw [HLA.out]; omega)
  rw [HLA.out] at hcl
  refine hcl.mono ?_
  clear hcl
  rintro e w7 ⟨a7, p7, rfl, ho7, hb7⟩
  have hsc := scale_full w6.heap.size a7 p7 xs F 0 w7 hb7.size k4 (by omega) HX.out (by rw [HLA.out]; omega) (by rw [HLA.out]; exact ho7)
  rw [HLA.out] at hsc
  have HSC := Lib.hid hsc
  have HB7 := Lib.hid hb7
  clear hsc hb7 ho7
  go_wp2_with fail
  refine HSC.out.mono ?_
  rintro e w8 ⟨a8, p8, rs, rfl, ho8, hb8, hlimr, hlr, hvr, hlr2⟩
  have hvr2 : M.val rs = M.val xs * (F : Int) := by rw [hvr]; simp
  have hb68 := HB7.out.trans (hb8.mono (Nat.le_refl _))
  have hs8 := hb68.size
  have hlr3 : n + 2 + m ≤ rs.length ∧ rs.length ≤ n + 2 + m + 1 := by have := HLA.out; omega
  have HC8 := Lib.hid (And.intro (cell_below hb68 HC6.out.1) (And.intro (cell_below hb68 HC6.out.2.1) (And.intro (cell_below hb68 HC6.out.2.2.1) (And.intro (frozen_below hb68 HC6.out.2.2.1 HC6.out.2.2.2.1) (And.intro (cell_below hb68 HC6.out.2.2.2.2.1) (frozen_below hb68 HC6.out.2.2.2.2.1 HC6.out.2.2.2.2.2))))))
  have HO8 := Lib.hid ho8
  have HD8 := Lib.hid (HO6.out.below hb68)
  have HB8 := Lib.hid hb68
  have HVR := Lib.hid hvr2
  have HLIMR := Lib.hid hlimr
  clear hvr hvr2 hlimr hlr hlr2 hb68 hb8 ho8 HC6 HO6 HB7 HSC HA6
  have g3 := HC8.out.2.2.2.2.1
  have gf3 := HC8.out.2.2.2.2.2
  have l3 : w.heap.size + 1 + 1 < w6.heap.size := by omega
  go_wp2_with (first
    | (at_builtin; refine wpList_app1 rfl _ _ rfl rfl (HO8.out.alloc _) rfl (cell_new _ _ _) (by omega) (by simp; omega) ?_; intro a9 p9 w9 hown9 hb9; have e9 := (hb9.cell (p := ⟨w.heap.size + 1 + 1, 0, none⟩) l3).trans (cell_later (.cells #[.int .i64 0] 3) g3); have ef9 := (hb9.frozen (p := ⟨w.heap.size + 1 + 1, 0, none⟩) l3).trans (frozen_later (.cells #[.int .i64 0] 3) g3 gf3);
        have c9 := (hb9.cell (p := ⟨w.heap.size, 0, none⟩) (by show w.heap.size < _; omega)).trans (cell_later (.cells #[.int .i64 0] 3) HC8.out.2.1); have c92 := (hb9.cell (p := ⟨w.heap.size + 1, 0, none⟩) (by show w.heap.size + 1 < _; omega)).trans (cell_later (.cells #[.int .i64 0] 3) HC8.out.2.2.1); have cf92 := (hb9.frozen (p := ⟨w.heap.size + 1, 0, none⟩) (by show w.heap.size + 1 < _; omega)).trans (frozen_later (.cells #[.int .i64 0] 3) HC8.out.2.2.1 HC8.out.2.2.2.1); have HO9 := Lib.hid hown9; have HB9 := Lib.hid hb9; clear hown9 hb9)
    | (at_make; refine wpList_make1 rfl _ _ rfl (m + 1) rfl rfl (by omega) (by omega) (B := w9.heap.size) (by simp [World.setCell]) ?_; intro w10 hown10 hb10; have HO10 := Lib.hid hown10; have HB10 := Lib.hid hb10; clear hown10 hb10;
        have e10 := cell_below ((HB10.out.mono (by simp [World.setCell]))) ((cell_other (W := w9) (p := ⟨w.heap.size + 1 + 1, 0, none⟩) (a := ⟨w.heap.size + 1, 0, none⟩) (.slice a9 (rs.length + 1) p9) (by simp)).trans c92); have ef10 := frozen_below ((HB10.out.mono (by simp [World.setCell]))) ((cell_other (W := w9) (p := ⟨w.heap.size + 1 + 1, 0, none⟩) (a := ⟨w.heap.size + 1, 0, none⟩) (.slice a9 (rs.length + 1) p9) (by simp)).trans c92) ((World.frozen?_setCell _ _ _ _).trans cf92)))
  refine (backward_any _ _ _ _).mono ?_
  rintro e w' ⟨rfl, rfl⟩
  have hb10 := HB10.out
  have hs9 := HB9.out.size
  have hs10 := hb10.size
  have hsz9 : (w9.setCell ⟨w.heap.size + 1 + 1, 0, none⟩ (.slice a9 (rs.length + 1) p9)).heap.size = w9.heap.size := by simp [World.setCell]
  have hsz10 : (w10.setCell ⟨w.heap.size + 1, 0, none⟩ (.slice (some ⟨w9.heap.size, 0, none⟩) (m + 1) (m + 1))).heap.size = w10.heap.size := by simp [World.setCell]
  rw [World.size_alloc] at hs9
  rw [hsz9] at hs10
  have hbb : Below (w9.setCell ⟨w.heap.size + 1 + 1, 0, none⟩ (.slice a9 (rs.length + 1) p9)).heap.size (w9.setCell ⟨w.heap.size + 1 + 1, 0, none⟩ (.slice a9 (rs.length + 1) p9)) w10 := by rw [hsz9]; exact hb10
  have q5 := World.cell?_setCell_same' w9 ⟨w.heap.size + 1 + 1, 0, none⟩ (.slice a9 (rs.length + 1) p9) (by rw [e9]; rfl)
  have r5 := cell_below hbb q5
  have r5f := frozen_below hbb q5 ((World.frozen?_setCell _ _ _ _).trans ef9)
  have r3 := cell_below hbb ((cell_other (W := w9) (p := ⟨w.heap.size + 1 + 1, 0, none⟩) (a := ⟨w.heap.size, 0, none⟩) (.slice a9 (rs.length + 1) p9) (by simp; omega)).trans c9)
  have c97 := (HB9.out.cell (p := ⟨w5.heap.size, 0, none⟩) (by show w5.heap.size < _; omega)).trans (cell_later (.cells #[.int .i64 0] 3) HC8.out.1)
  have r7 := cell_below hbb ((cell_other (W := w9) (p := ⟨w.heap.size + 1 + 1, 0, none⟩) (a := ⟨w5.heap.size, 0, none⟩) (.slice a9 (rs.length + 1) p9) (by show w5.heap.size ≠ w.heap.size + 1 + 1; omega)).trans c97)
  obtain ⟨gr, rfl, hgr1, hgr2, _⟩ := HO9.out.at2 0 (by simp)
  have hlen9 : (rs ++ [0]).length = rs.length + 1 := by simp
  have hO9 := HO9.out
  rw [hlen9] at hO9
  have hR := ((hO9.other (p := ⟨w.heap.size + 1 + 1, 0, none⟩) (.slice (some ⟨gr, 0, none⟩) (rs.length + 1) p9) (by simp [Value.ownBlock]; omega)).below hbb).mono (B' := w.heap.size) (by omega)
  have hR' := (hR.other (p := ⟨w.heap.size + 1, 0, none⟩) (.slice (some ⟨w9.heap.size, 0, none⟩) (m + 1) (m + 1)) (by simp [Value.ownBlock]; omega)).alloc (.cells #[.slice (some ⟨w9.heap.size, 0, none⟩) (m + 1) (m + 1)] 24)
  have hb89 : Below w8.heap.size w8 (w8.alloc (.cells #[.int .i64 0] 3)) := (Below.refl _ _).alloc (Nat.le_refl _) _
  have hD9 := (((HD8.out.below hb89).belowAt (B0 := w6.heap.size) (by omega) HB9.out).other (p := ⟨w.heap.size + 1 + 1, 0, none⟩) (.slice (some ⟨gr, 0, none⟩) (rs.length + 1) p9) (by simp [Value.ownBlock]; omega)).below hbb
  have hD' := ((hD9.mono (B' := w.heap.size) (by omega)).other (p := ⟨w.heap.size + 1, 0, none⟩) (.slice (some ⟨w9.heap.size, 0, none⟩) (m + 1) (m + 1)) (by simp [Value.ownBlock]; omega)).alloc (.cells #[.slice (some ⟨w9.heap.size, 0, none⟩) (m + 1) (m + 1)] 24)
  have hQ := HO10.out
  rw [hsz9, List.length_replicate] at hQ
  have hQ' := ((hQ.mono (B' := w.heap.size) (by omega)).other (p := ⟨w.heap.size + 1, 0, none⟩) (.slice (some ⟨w9.heap.size, 0, none⟩) (m + 1) (m + 1)) (by simp [Value.ownBlock]; omega)).alloc (.cells #[.slice (some ⟨w9.heap.size, 0, none⟩) (m + 1) (m + 1)] 24)
  have hb3 := HB3.out
  have hb0 : Below w.heap.size w (w8.alloc (.cells #[.int .i64 0] 3)) := ((hb3.trans (HB6.out.mono (by omega))).trans (HB8.out.mono (by omega))).alloc (by omega) _
  have hb1 : Below w.heap.size w w10 := (((hb0.trans (HB9.out.mono (by omega))).setCell (p := ⟨w.heap.size + 1 + 1, 0, none⟩) (by simp; omega) _).trans (hbb.mono (by omega)))
  have hb2 := (hb1.setCell (p := ⟨w.heap.size + 1, 0, none⟩) (by simp) (.slice (some ⟨w9.heap.size, 0, none⟩) (m + 1) (m + 1))).alloc (by rw [hsz10]; omega) (.cells #[.slice (some ⟨w9.heap.size, 0, none⟩) (m + 1) (m + 1)] 24)
  have s4 := World.cell?_setCell_same' w10 ⟨w.heap.size + 1, 0, none⟩ (.slice (some ⟨w9.heap.size, 0, none⟩) (m + 1) (m + 1)) (by rw [e10]; rfl)
  have s5 := (cell_other (W := w10) (p := ⟨w.heap.size + 1, 0, none⟩) (a := ⟨w.heap.size + 1 + 1, 0, none⟩) (.slice (some ⟨w9.heap.size, 0, none⟩) (m + 1) (m + 1)) (by simp)).trans r5
  have s3 := (cell_other (W := w10) (p := ⟨w.heap.size + 1, 0, none⟩) (a := ⟨w.heap.size, 0, none⟩) (.slice (some ⟨w9.heap.size, 0, none⟩) (m + 1) (m + 1)) (by simp)).trans r3
  have s7 := (cell_other (W := w10) (p := ⟨w.heap.size + 1, 0, none⟩) (a := ⟨w5.heap.size, 0, none⟩) (.slice (some ⟨w9.heap.size, 0, none⟩) (m + 1) (m + 1)) (by show w5.heap.size ≠ w.heap.size + 1; omega)).trans r7
  have sb := cell_new (w10.setCell ⟨w.heap.size + 1, 0, none⟩ (.slice (some ⟨w9.heap.size, 0, none⟩) (m + 1) (m + 1))) (.slice (some ⟨w9.heap.size, 0, none⟩) (m + 1) (m + 1)) 24
  have hD0 : 0 < M.val ds := M.val_pos_top HLD.out HLIMD.out htopd
  have hstart : M.val ((rs ++ [0]).drop (m + 1)) < M.val ds := M.start_lt HLA.out HLB.out HX.out HY.out (HLIMR.out.append (M.Lim.cons (by omega) (by omega) M.Lim.nil)) (by rw [HT.out]; exact htop) k3 (by rw [M.val_append]; simp [M.val]; exact HVR.out) HVD.out (by simp; omega)
  have HI0 : Hid (LongI w w5.heap.size w9.heap.size gr gd bb bo n m (rs.length + 1) p9 p5 cb (w10.setCell ⟨w.heap.size + 1, 0, none⟩ (.slice (some ⟨w9.heap.size, 0, none⟩) (m + 1) (m + 1))).heap.size ds (M.val xs * F) (m + 1) ((w10.setCell ⟨w.heap.size + 1, 0, none⟩ (.slice (some ⟨w9.heap.size, 0, none⟩) (m + 1) (m + 1))).alloc (.cells #[.slice (some ⟨w9.heap.size, 0, none⟩) (m + 1) (m + 1)] 24))) :=
    ⟨⟨⟨cell_later _ s4, cell_later _ s5, cell_later _ s3, cell_later _ s7⟩, frozen_later _ s4 ((World.frozen?_setCell _ _ _ _).trans ef10), frozen_later _ s5 ((World.frozen?_setCell _ _ _ _).trans r5f), sb⟩,
      _, _, hQ', hR', hD', M.Lim.replicate _, HLIMR.out.append (M.Lim.cons (by omega) (by omega) M.Lim.nil), by simp, by simp, fun j _ => M.el_replicate _ _, by
        rw [List.drop_of_length_le (by simp), M.val_append]; simp [M.val]; exact HVR.out.symm, hstart, hb2⟩
  have hbs : (w10.setCell ⟨w.heap.size + 1, 0, none⟩ (.slice (some ⟨w9.heap.size, 0, none⟩) (m + 1) (m + 1))).heap.size = w10.heap.size := hsz10
  rw [hbs] at HI0
  have hwsz : w.heap.size ≤ ((w10.setCell ⟨w.heap.size + 1, 0, none⟩ (.slice (some ⟨w9.heap.size, 0, none⟩) (m + 1) (m + 1))).alloc (.cells #[.slice (some ⟨w9.heap.size, 0, none⟩) (m + 1) (m + 1)] 24)).heap.size := hb2.size
  have hL : n + 2 + m + 1 ≤ rs.length + 1 := by omega
  have hL2 : rs.length + 1 < 20000 := by omega
  obtain ⟨A, hA⟩ : ∃ A, M.val xs * F = A := ⟨_, rfl⟩
  rw [hA] at HI0
  have HAF := Lib.hid hA
  have z1 : gr < ((w10.setCell ⟨w.heap.size + 1, 0, none⟩ (.slice (some ⟨w9.heap.size, 0, none⟩) (m + 1) (m + 1))).alloc (.cells #[.slice (some ⟨w9.heap.size, 0, none⟩) (m + 1) (m + 1)] 24)).heap.size := by rw [World.size_alloc, hsz10]; omega
  have z2 : w.heap.size ≤ w9.heap.size := by omega
  have z3 : w.heap.size ≤ gr := by omega
  have x1 : gr ≠ w.heap.size + 1 := by omega
  have x2 : gr ≠ w.heap.size + 1 + 1 := by omega
  have x3 : gr ≠ w.heap.size := by omega
  have x4 : gr ≠ w5.heap.size := by omega
  have x5 : gr ≠ w10.heap.size := by omega
  have x6 : gd ≠ gr := by omega
  have x7 : w9.heap.size ≠ gr := by omega
  have x8 : w9.heap.size ≠ w.heap.size + 1 := by omega
  have x9 : w9.heap.size ≠ w.heap.size + 1 + 1 := by omega
  have y3 : w9.heap.size ≠ w.heap.size := by omega
  have y4 : w9.heap.size ≠ w5.heap.size := by omega
  have y5 : w9.heap.size ≠ w10.heap.size := by have := hQ.at2 0 (by simp); obtain ⟨g', e, _, h, _⟩ := this; cases e; omega
  have y6 : gd ≠ w9.heap.size := by omega
  have y7 : gr ≠ w9.heap.size := by omega
  clear hA hb2 hb1 hb0 hb3 s4 s5 s3 s7 sb hstart hQ hQ' hD' hD9 hb89 hR hR' hO9 hlen9 r3 r5 r7 r5f c97 q5 hbb hb10 e9 ef9 c9 c92 cf92 e10 ef10 HO9 HB9 HO10 HB10 g3 gf3 l3 HC8 HO8 HD8 HB8 HVR HLIMR hs9 hs10 hsz9 hsz10 HB6 HB3 HB' HBL hs3 hs5 hs6 hs8 hbs hgr1 hgr2 hgd1 hgd2
  generalize ((w10.setCell ⟨w.heap.size + 1, 0, none⟩ (.slice (some ⟨w9.heap.size, 0, none⟩) (m + 1) (m + 1))).alloc (.cells #[.slice (some ⟨w9.heap.size, 0, none⟩) (m + 1) (m + 1)] 24)) = W11 at *
  generalize w9.heap.size = gq at *
  generalize w5.heap.size = q7 at *
  generalize rs.length = L0 at *
  go_wp2_with fail
  generalize w10.heap.size = bs at *
  refine wpIn_wide.1 (wpIn_back (n := 6) (by omega) (Bs := bs) rfl rfl (some ⟨gq, 0, none⟩) (m + 1) (m + 1) (by omega) (fun _ => 0) (LongI w q7 gq gr gd bb bo n m (L0 + 1) p9 p5 cb bs ds A) (fun _ _ _ => False) (longI_own hwsz) (fun _ _ _ _ _ hs _ _ => hs) HI0.out (fun k W h => h.1.2.2.2) ?read ?act ?assign ?body ?done ?stop)
  case read =>
    rintro k W ⟨_, qs, _, hq, _, _, _, _, hql, _, hz, _⟩ hk
    obtain ⟨g, e, _, _, _, _, hc, _⟩ := hq.at2 k (by rw [hql]; exact hk)
    rw [hz k (Nat.lt_succ_self k)] at hc
    exact ⟨g, 0, e, by simpa using hc⟩
  case assign =>
    intro l k W K hk hK
    gi_wp2
    exact hK
  case body =>
    rintro l k W hl hrec ⟨⟨⟨h4, h5, h3, h7⟩, f4, f5, hbx⟩, qs, rs, hq, hr, hd, hlq, hlr, hqn, hrn, hz, hA, hlt, hB⟩ hk
    clear hl hrec HI0
    have hKD := M.val_lt HLIMD.out
    rw [HLD.out] at hKD
    obtain ⟨p0, pp, plt⟩ := M.part_lt (k := k) (n := n) hlr (by omega) (Int.le_of_lt hKD) hlt
    have hmx : Tryz.prog.follows .mixedOrders = true := by kernel_rfl
    have hrm := (show Own W w.heap.size (.slice (some ⟨gr, 0, none⟩) rs.length p9) rs by rw [hrn]; exact hr).rowAt
    have hrm1 := hrm.room
    have hrm2 := hrm.most
    obtain ⟨u, hu⟩ : ∃ u : Nat, u = k + (n + 2) := ⟨_, rfl⟩
    obtain ⟨v, hv⟩ : ∃ v : Nat, v = u + 1 := ⟨_, rfl⟩
    have hw1 : IntKind.i64.wrap ((k : Int) + ((n : Int) + 2)) = (u : Int) := by rw [IntKind.wrap_i64]; omega
    have hw2 : IntKind.i64.wrap ((u : Int) + 1) = (v : Int) := by rw [IntKind.wrap_i64]; omega
    have hv1 : (k : Int) ≤ (v : Int) := by omega
    have hv2 : (v : Int) ≤ (p9 : Int) := by omega
    have hv3 : (0 : Int) ≤ (k : Int) := by omega
    have HU := Lib.hid hu
    have HV := Lib.hid hv
    have HRN := Lib.hid hrn
    have HQN := Lib.hid hqn
    have HA := Lib.hid hA
    have HP0 := Lib.hid p0
    have HPP := Lib.hid pp
    clear hrm hu hv hrn hqn hA p0 pp
    refine wpIn_block ?_
    refine wpIn_region_held (S := fun W' => W'.cell? ⟨w.heap.size + 1, 0, none⟩ = some (.slice (some ⟨gq, 0, none⟩) (m + 1) (m + 1)) ∧ W'.cell? ⟨w.heap.size + 1 + 1, 0, none⟩ = some (.slice (some ⟨gr, 0, none⟩) (L0 + 1) p9) ∧
      W'.cell? ⟨w.heap.size, 0, none⟩ = some (.slice (some ⟨bb, bo, none⟩) (n + 2) cb) ∧ W'.cell? ⟨q7, 0, none⟩ = some (.slice (some ⟨gd, 0, none⟩) (n + 2) p5)) hmx (by kernel_rfl) (by rintro ⟨_, _, h⟩; exact h) ⟨h4, h5, h3, h7⟩ (fun hHeld => ?_)
    refine wpAnyH_at 0 (some 40) (v := ?_) rfl rfl (by kernel_rfl) (by kernel_rfl) (by kernel_rfl) (fun _ _ _ h => h) (Or.inl ⟨by rfl, ?_⟩) hHeld ?_
    rotate_left
    · (intro W2 hSw; obtain ⟨j4, j5, j3, j7⟩ := hSw; go_simp; try with_reducible rfl)
    simp only [Act.put, List.setIfInBounds_toArray, List.set_cons_zero, List.set_cons_succ]
    refine wpAnyH_at 1 (some 41) (v := ?_) rfl rfl (by kernel_rfl) (by kernel_rfl) (by kernel_rfl) (fun _ _ _ h => h) (Or.inl ⟨by rfl, ?_⟩) hHeld ?_
    rotate_left
    · (intro W2 hSw; obtain ⟨j4, j5, j3, j7⟩ := hSw; go_simp; try with_reducible rfl)
    simp only [Act.put, List.setIfInBounds_toArray, List.set_cons_zero, List.set_cons_succ]
    refine wpAnyH_at 2 (some 42) (v := ?_) rfl rfl (by kernel_rfl) (by kernel_rfl) (by kernel_rfl) (fun _ _ _ h => h) (Or.inl ⟨by rfl, ?_⟩) hHeld ?_
    rotate_left
    · (intro W2 hSw; obtain ⟨j4, j5, j3, j7⟩ := hSw; go_simp; try with_reducible rfl)
    simp only [Act.put, List.setIfInBounds_toArray, List.set_cons_zero, List.set_cons_succ]
    refine wpAnyH_at 3 (some 43) (v := ?_) rfl rfl (by kernel_rfl) (by kernel_rfl) (by kernel_rfl) (fun _ _ _ h => h) (Or.inl ⟨by rfl, ?_⟩) hHeld ?_
    rotate_left
    · (intro W2 hSw; obtain ⟨j4, j5, j3, j7⟩ := hSw; go_simp; try with_reducible rfl)
    simp only [Act.put, List.setIfInBounds_toArray, List.set_cons_zero, List.set_cons_succ]
    refine wpAnyH_at 4 (some 44) (v := ?_) rfl rfl (by kernel_rfl) (by kernel_rfl) (by kernel_rfl) (fun _ _ _ h => h) (Or.inl ⟨by rfl, ?_⟩) hHeld ?_
    rotate_left
    · (intro W2 hSw; obtain ⟨j4, j5, j3, j7⟩ := hSw; go_simp; try with_reducible rfl)
    simp only [Act.put, List.setIfInBounds_toArray, List.set_cons_zero, List.set_cons_succ]
    refine wpAnyH_at 5 (some 45) (v := ?_) rfl rfl (by kernel_rfl) (by kernel_rfl) (by kernel_rfl) (fun _ _ _ h => h) (Or.inl ⟨by rfl, ?_⟩) hHeld ?_
    rotate_left
    · (intro W2 hSw; obtain ⟨j4, j5, j3, j7⟩ := hSw; go_simp; try with_reducible rfl)
    simp only [Act.put, List.setIfInBounds_toArray, List.set_cons_zero, List.set_cons_succ]
    refine wpAnyH_at 6 (some 46) (v := ?_) rfl rfl (by kernel_rfl) (by kernel_rfl) (by kernel_rfl) (fun _ _ _ h => h) (Or.inl ⟨by rfl, ?_⟩) hHeld ?_
    rotate_left
    · (intro W2 hSw; obtain ⟨j4, j5, j3, j7⟩ := hSw; go_simp; try with_reducible rfl)
    simp only [Act.put, List.setIfInBounds_toArray, List.set_cons_zero, List.set_cons_succ]
    refine wpAnyH_at 7 (some 47) (v := ?_) rfl rfl (by kernel_rfl) (by kernel_rfl) (by kernel_rfl) (fun _ _ _ h => h) (Or.inl ⟨by rfl, ?_⟩) hHeld ?_
    rotate_left
    · (intro W2 hSw; obtain ⟨j4, j5, j3, j7⟩ := hSw; go_simp; try with_reducible rfl)
    simp only [Act.put, List.setIfInBounds_toArray, List.set_cons_zero, List.set_cons_succ]
    refine wpAnyH_at 8 (some 48) (v := ?_) rfl rfl (by kernel_rfl) (by kernel_rfl) (by kernel_rfl) (fun _ _ _ h => h) (Or.inl ⟨by rfl, ?_⟩) hHeld ?_
    rotate_left
    · (intro W2 hSw; obtain ⟨j4, j5, j3, j7⟩ := hSw; go_simp; try with_reducible rfl)
    simp only [Act.put, List.setIfInBounds_toArray, List.set_cons_zero, List.set_cons_succ]
    refine wpAnyH_at 9 (some 49) (v := ?_) rfl rfl (by kernel_rfl) (by kernel_rfl) (by kernel_rfl) (fun _ _ _ h => h) (Or.inl ⟨by rfl, ?_⟩) hHeld ?_
    rotate_left
    · (intro W2 hSw; obtain ⟨j4, j5, j3, j7⟩ := hSw; go_simp; try with_reducible rfl)
    simp only [Act.put, List.setIfInBounds_toArray, List.set_cons_zero, List.set_cons_succ]
    refine wpAnyH_at 10 (some 50) (v := ?_) rfl rfl (by kernel_rfl) (by kernel_rfl) (by kernel_rfl) (fun _ _ _ h => h) (Or.inl ⟨by rfl, ?_⟩) hHeld ?_
    rotate_left
    · (intro W2 hSw; obtain ⟨j4, j5, j3, j7⟩ := hSw; go_simp; try with_reducible rfl)
    simp only [Act.put, List.setIfInBounds_toArray, List.set_cons_zero, List.set_cons_succ]
    refine wpAnyH_ready (rs := [11]) (by kernel_rfl) (by simp) ?_
    refine AllReadyH.cons rfl (fun K hK => ?_) AllReadyH.nil
    go_simp
    rw [if_neg (show ¬ p9 = k by have := HU.out; have := HV.out; omega), show v - k = n + 2 + 1 by have := HU.out; have := HV.out; omega]
    have hkr : k + (n + 2 + 1) ≤ rs.length := by rw [HRN.out]; omega
    have lk : (rs.take k).length = k := by rw [List.length_take]; omega
    have lp : ((rs.drop k).take (n + 2 + 1)).length = n + 2 + 1 := by rw [List.length_take, List.length_drop]; omega
    have hdr := (show Own W w.heap.size (.slice (some ⟨gd, 0, none⟩) ds.length p5) ds by rw [HLD.out]; exact hd).rowAt
    have ht := takeOut_any w.heap.size gr p9 (L0 + 1) (p9 - k) p5 n (rs.take k) ((rs.drop k).take (n + 2 + 1)) (rs.drop (k + (n + 2 + 1))) ds (some ⟨gd, 0, none⟩) W.drew (by rw [M.split3]; exact hr) lp (by have := HRN.out; omega) (by omega)
      ⟨hdr.room, hdr.most, hdr.el⟩ HLD.out (by intro b off e; cases e; exact x6) ((hlr.drop k).take _) HLIMD.out htopd (by rw [HPP.out]; exact plt)
    rw [lk] at ht
    refine ht.mono ?_
    clear ht
    rintro e W2 ⟨ts, rfl, hts, hlt2, hvt, ho2, hg2⟩
    have hg2' : W.grownBy W2 (some gr) := ⟨hg2.os, hg2.tape, hg2.output, hg2.size, hg2.block⟩
    have g4 := cell_grown hg2' (show (w.heap.size + 1 : Nat) ≠ gr from x1.symm) h4
    have g5 := cell_grown hg2' (show (w.heap.size + 1 + 1 : Nat) ≠ gr from x2.symm) h5
    have g3 := cell_grown hg2' (show (w.heap.size : Nat) ≠ gr from x3.symm) h3
    have g7 := cell_grown hg2' (show (q7 : Nat) ≠ gr from x4.symm) h7
    have gf4 := frozen_grown hg2' (show (w.heap.size + 1 : Nat) ≠ gr from x1.symm) h4 f4
    have gf5 := frozen_grown hg2' (show (w.heap.size + 1 + 1 : Nat) ≠ gr from x2.symm) h5 f5
    have gbx := cell_grown hg2' (show (bs : Nat) ≠ gr from x5.symm) hbx
    have hq2 := hq.grownAt hg2' x7
    have hd2 := hd.grownAt hg2' x6
    obtain ⟨_, e', _, _, _, _, ck, fk⟩ := hq2.at2 k (by rw [HQN.out]; exact hk)
    cases e'
    obtain ⟨st1, st2⟩ := M.long_step hkr (by rw [HQN.out]; exact hk) hts hD0 HP0.out HPP.out hvt HA.out
    have hkeep : KeepsFrom W11.heap.size W W2 := KeepsFrom.of_grownBy hg2' (fun j e => by cases e; exact z1)
    have hqd : 0 ≤ M.val ((rs.drop k).take (n + 2 + 1)) / M.val ds ∧ M.val ((rs.drop k).take (n + 2 + 1)) / M.val ds < 16777216 := by
      rw [HPP.out]
      exact ⟨Int.ediv_nonneg (M.val_nonneg (hlr.drop k)) (Int.le_of_lt hD0), Int.ediv_lt_of_lt_mul hD0 (by rw [Int.mul_comm]; exact plt)⟩
    obtain ⟨qk, hqk⟩ : ∃ qk, M.val ((rs.drop k).take (n + 2 + 1)) / M.val ds = qk := ⟨_, rfl⟩
    rw [hqk] at st1 hqd ⊢
    have HST := Lib.hid (And.intro st1 st2)
    have HHK := Lib.hid hkeep
    have hkm : (k : Int) < (m : Int) + 1 := by omega
    clear hHeld hqk st1 st2 hkeep h4 h5 h3 h7 f4 f5 hbx hq hd hg2 hr hvt
    refine hK.out _ _ ⟨g4, g5, g3, g7⟩ (fun hHeld => ?_)
    try simp only [Act.put, List.setIfInBounds_toArray, List.set_cons_zero, List.set_cons_succ]
    refine wpAnyH_at 12 (some 52) (v := ?_) rfl rfl (by kernel_rfl) (by kernel_rfl) (by kernel_rfl) (fun _ _ _ h => h) (Or.inl ⟨by rfl, ?_⟩) hHeld ?_
    rotate_left
    · (intro W2 hSw; obtain ⟨j4, j5, j3, j7⟩ := hSw; go_simp; try with_reducible rfl)
    simp only [Act.put, List.setIfInBounds_toArray, List.set_cons_zero, List.set_cons_succ]
    refine wpAnyH_ready (rs := [13]) (by kernel_rfl) (by simp) ?_
    refine AllReadyH.cons rfl (fun K hK => ?_) AllReadyH.nil
    go_simp
    have hqs : Own (W2.setCell ⟨gq, k, none⟩ (.int .i64 qk)) w.heap.size (.slice (some ⟨gq, 0, none⟩) (m + 1) (m + 1)) (qs.set k qk) := by
      have := (show Own W2 w.heap.size (.slice (some ⟨gq, 0, none⟩) qs.length (m + 1)) qs by rw [HQN.out]; exact hq2).set k qk
      rw [HQN.out] at this
      exact this
    have hkql : k < qs.length := by rw [HQN.out]; exact hk
    refine hK.out _ _ ⟨(cell_other _ (show (w.heap.size + 1 : Nat) ≠ gq from x8.symm)).trans g4, (cell_other _ (show (w.heap.size + 1 + 1 : Nat) ≠ gq from x9.symm)).trans g5, (cell_other _ (show (w.heap.size : Nat) ≠ gq from y3.symm)).trans g3, (cell_other _ (show (q7 : Nat) ≠ gq from y4.symm)).trans g7⟩ (fun _ => wpAnyH_done (by kernel_rfl) ?_ _)
    refine ⟨HHK.out.trans ((KeepsOthers.setCell _ _ _).from _), ⟨⟨(cell_other _ (show (w.heap.size + 1 : Nat) ≠ gq from x8.symm)).trans g4, (cell_other _ (show (w.heap.size + 1 + 1 : Nat) ≠ gq from x9.symm)).trans g5, (cell_other _ (show (w.heap.size : Nat) ≠ gq from y3.symm)).trans g3, (cell_other _ (show (q7 : Nat) ≠ gq from y4.symm)).trans g7⟩,
      (World.frozen?_setCell _ _ _ _).trans gf4, (World.frozen?_setCell _ _ _ _).trans gf5, (cell_other _ (show (bs : Nat) ≠ gq from y5.symm)).trans gbx⟩, qs.set k qk, rs.take k ++ ts ++ rs.drop (k + (n + 2 + 1)), hqs, ho2.other _ (by simp [Value.ownBlock]; exact y7), hd2.other _ (by simp [Value.ownBlock]; exact y6), hlq.set _ hqd.1 hqd.2, ((hlr.take k).append hlt2).append (hlr.drop _), by rw [List.length_set]; exact HQN.out,
      by have := HRN.out; simp only [List.length_append, List.length_drop, lk, hts]; omega, fun j hj => by rw [M.el_set _ _ _ _ hkql, if_neg (by omega)]; exact hz j (by omega), HST.out.1, HST.out.2, ?_⟩
    exact (hB.trans ((Below.refl w.heap.size W).grown hg2' hB.size (fun j e => by cases e; exact z3))).setCell (p := ⟨gq, k, none⟩) z2 _
  case done =>
    rintro D W hD ⟨⟨⟨h4, h5, _, _⟩, f4, f5, _⟩, qs, rs, hq, hr, _, hlq, hlr, hqn, hrn, _, hA, hlt, hB⟩ hK
    rw [Int.pow_zero, Int.mul_one, List.drop_zero] at hA
    rw [List.drop_zero] at hlt
    rw [← HAF.out, HVD.out] at hA
    rw [HVD.out] at hlt
    have HE := Lib.hid (M.long_end k3 hlr hA hlt)
    have hsh := shrink_any w.heap.size (some ⟨gr, 0, none⟩) p9 rs F W k3 (by omega) hlr (by rw [hrn]; exact hr)
    rw [hrn] at hsh
    have HSH := Lib.hid hsh
    have HQN := Lib.hid hqn
    have HRN := Lib.hid hrn
    have HQ := Lib.hid hq
    have HB := Lib.hid hB
    have HKD := Lib.hid hK
    clear hA hlt hsh hqn hrn hq hr hB hK HI0
    go_wp2_with fail
    refine HSH.out.mono ?_
    rintro e W2 ⟨rfl, ho2, hg2⟩
    have g4 := cell_grown hg2 (show (w.heap.size + 1 : Nat) ≠ gr from x1.symm) h4
    have g5 := cell_grown hg2 (show (w.heap.size + 1 + 1 : Nat) ≠ gr from x2.symm) h5
    have gf4 := frozen_grown hg2 (show (w.heap.size + 1 : Nat) ≠ gr from x1.symm) h4 f4
    have gf5 := frozen_grown hg2 (show (w.heap.size + 1 + 1 : Nat) ≠ gr from x2.symm) h5 f5
    have hq2 := HQ.out.grownAt hg2 x7
    have hK2 : W2.heap[D]? = some (.deferred (some [])) := (hg2.block D (Array.getElem?_eq_some_iff.1 HKD.out).1 (by intro e; have h1 : D = gr := Option.some.inj e; have h2 : W11.heap.size ≤ D := hD; omega)).trans HKD.out
    have hB2 := HB.out.trans ((Below.refl w.heap.size W).grown hg2 HB.out.size (fun j e => by cases e; exact z3))
    have HQ2 := Lib.hid hq2
    have HO2 := Lib.hid ho2
    have HK2 := Lib.hid hK2
    have HB2 := Lib.hid hB2
    clear hq2 ho2 hK2 hB2 hg2 h4 h5 f4 f5
    go_wp2_with fail
    go_region
    go_wp2_with fail
    have hKa := (((KeepsOthers.setCell W2 ⟨w.heap.size + 1, 0, none⟩ (.slice (some ⟨gq, 0, none⟩) (m + 1) (m + 1))).trans (KeepsOthers.setCell _ ⟨w.heap.size + 1 + 1, 0, none⟩ (.slice (some ⟨gr, 0, none⟩) (L0 + 1) p9))).trans (KeepsOthers.drew _)).same D _ HK2.out rfl
    refine ⟨by simp, .inl ⟨_, _, rfl, run_takeDeferred hKa, ?_⟩⟩
    have u4 := World.cell?_setCell_same' W2 ⟨w.heap.size + 1, 0, none⟩ (.slice (some ⟨gq, 0, none⟩) (m + 1) (m + 1)) (by rw [g4]; rfl)
    have u5 := World.cell?_setCell_same' (W2.setCell ⟨w.heap.size + 1, 0, none⟩ (.slice (some ⟨gq, 0, none⟩) (m + 1) (m + 1))) ⟨w.heap.size + 1 + 1, 0, none⟩ (.slice (some ⟨gr, 0, none⟩) (L0 + 1) p9) (by rw [cell_other _ (by simp), g5]; rfl)
    have u4' := (cell_other (W := W2.setCell ⟨w.heap.size + 1, 0, none⟩ (.slice (some ⟨gq, 0, none⟩) (m + 1) (m + 1))) (p := ⟨w.heap.size + 1 + 1, 0, none⟩) (a := ⟨w.heap.size + 1, 0, none⟩) (.slice (some ⟨gr, 0, none⟩) (L0 + 1) p9) (by simp)).trans u4
    have hq3 := (HQ2.out.other (p := ⟨w.heap.size + 1, 0, none⟩) (.slice (some ⟨gq, 0, none⟩) (m + 1) (m + 1)) (by simp [Value.ownBlock]; exact x8)).other (p := ⟨w.heap.size + 1 + 1, 0, none⟩) (.slice (some ⟨gr, 0, none⟩) (L0 + 1) p9) (by simp [Value.ownBlock]; exact x9)
    have hr3 := (HO2.out.other (p := ⟨w.heap.size + 1, 0, none⟩) (.slice (some ⟨gq, 0, none⟩) (m + 1) (m + 1)) (by simp [Value.ownBlock]; exact x1)).other (p := ⟨w.heap.size + 1 + 1, 0, none⟩) (.slice (some ⟨gr, 0, none⟩) (L0 + 1) p9) (by simp [Value.ownBlock]; exact x2)
    have hB3 := belowN ((HB2.out.setCell (p := ⟨w.heap.size + 1, 0, none⟩) (by simp) (.slice (some ⟨gq, 0, none⟩) (m + 1) (m + 1))).setCell (p := ⟨w.heap.size + 1 + 1, 0, none⟩) (by simp; omega) (.slice (some ⟨gr, 0, none⟩) (L0 + 1) p9)) 1
    have u4d : ((W2.setCell ⟨w.heap.size + 1, 0, none⟩ (.slice (some ⟨gq, 0, none⟩) (m + 1) (m + 1))).setCell ⟨w.heap.size + 1 + 1, 0, none⟩ (.slice (some ⟨gr, 0, none⟩) (L0 + 1) p9)).drew.cell? ⟨w.heap.size + 1, 0, none⟩ = some (.slice (some ⟨gq, 0, none⟩) (m + 1) (m + 1)) := u4'
    have u5d : ((W2.setCell ⟨w.heap.size + 1, 0, none⟩ (.slice (some ⟨gq, 0, none⟩) (m + 1) (m + 1))).setCell ⟨w.heap.size + 1 + 1, 0, none⟩ (.slice (some ⟨gr, 0, none⟩) (L0 + 1) p9)).drew.cell? ⟨w.heap.size + 1 + 1, 0, none⟩ = some (.slice (some ⟨gr, 0, none⟩) (L0 + 1) p9) := u5
    have hq4 : Own ((W2.setCell ⟨w.heap.size + 1, 0, none⟩ (.slice (some ⟨gq, 0, none⟩) (m + 1) (m + 1))).setCell ⟨w.heap.size + 1 + 1, 0, none⟩ (.slice (some ⟨gr, 0, none⟩) (L0 + 1) p9)).drew w.heap.size (.slice (some ⟨gq, 0, none⟩) (m + 1) (m + 1)) qs := hq3
    have hr4 : Own ((W2.setCell ⟨w.heap.size + 1, 0, none⟩ (.slice (some ⟨gq, 0, none⟩) (m + 1) (m + 1))).setCell ⟨w.heap.size + 1 + 1, 0, none⟩ (.slice (some ⟨gr, 0, none⟩) (L0 + 1) p9)).drew w.heap.size (.slice (some ⟨gr, 0, none⟩) (L0 + 1) p9) (M.shr (F : Int) rs).2 := hr3
    have hB4 : Below w.heap.size w ((W2.setCell ⟨w.heap.size + 1, 0, none⟩ (.slice (some ⟨gq, 0, none⟩) (m + 1) (m + 1))).setCell ⟨w.heap.size + 1 + 1, 0, none⟩ (.slice (some ⟨gr, 0, none⟩) (L0 + 1) p9)).drew := hB3
    clear hq3 hr3 hB3 u4 u5 u4' g4 g5 gf4 gf5 HQ2 HO2 HK2 HB2
    generalize ((W2.setCell ⟨w.heap.size + 1, 0, none⟩ (.slice (some ⟨gq, 0, none⟩) (m + 1) (m + 1))).setCell ⟨w.heap.size + 1 + 1, 0, none⟩ (.slice (some ⟨gr, 0, none⟩) (L0 + 1) p9)).drew = W3 at *
    have v4 := cell_kept u4d (grownBy_putObj' _ D (.deferred none)) (fun r e => by cases e; exact ⟨_, hKa, rfl⟩)
    have v5 := cell_kept u5d (grownBy_putObj' _ D (.deferred none)) (fun r e => by cases e; exact ⟨_, hKa, rfl⟩)
    have hq5 := ownFrom_own (B0 := 0) (fun (_ : Unit) => qs) () _ _ _ hq4 (grownBy_putObj' _ D (.deferred none)) (fun r e => by cases e; exact ⟨Nat.zero_le _, _, hKa, rfl⟩)
    have hr5 := ownFrom_own (B0 := 0) (fun (_ : Unit) => (M.shr (F : Int) rs).2) () _ _ _ hr4 (grownBy_putObj' _ D (.deferred none)) (fun r e => by cases e; exact ⟨Nat.zero_le _, _, hKa, rfl⟩)
    have hsl : (M.shr (F : Int) rs).2.length = L0 + 1 := by rw [M.shr_len, HRN.out]
    refine ⟨.tuple #[.slice (some ⟨gq, 0, none⟩) (m + 1) (m + 1), .slice (some ⟨gr, 0, none⟩) (L0 + 1) p9], ?_, some ⟨gq, 0, none⟩, m + 1, qs, some ⟨gr, 0, none⟩, p9, (M.shr (F : Int) rs).2, ?_, ?_, ?_, hlq, M.shr_lim _ (by omega) hlr, HE.out.1, HE.out.2, hq5.fresh, hr5.fresh, ?_⟩
    · simp [results, Tryz.f151, go_sem, v4, v5]
    · rw [HQN.out, hsl]
    · exact (show Own _ w.heap.size (.slice (some ⟨gq, 0, none⟩) qs.length (m + 1)) qs by rw [HQN.out]; exact hq5).rowAt
    · exact (show Own _ w.heap.size (.slice (some ⟨gr, 0, none⟩) (M.shr (F : Int) rs).2.length p9) (M.shr (F : Int) rs).2 by rw [hsl]; exact hr5).rowAt
    · exact hB4.trans (belowK_b (w := w) (Nat.le_refl _) W3 D _ _ (by have h2 : W11.heap.size ≤ D := hD; omega) hKa rfl rfl)
  case stop =>
    rintro D c k W _ _ h _
    exact h.elim
end Go.Proofs.YtmejneobfkbgeaaGreatDoor

namespace Go.Proofs.YtmejneobfkbgeaaGreatDoor
open Go Go.RowKit Go.Shelf

theorem wpList_appNone {W : World} {ops : Array Oper} {rest : List Oper} {o : Oper} {a : Act} {Q : Exit → Act → World → Prop} (hgd : o.guard = none) (s x : Operand)
    (ho : o.op = .call { callee := .builtin .append, args := #[s, x], argTypes := #[24, 24] }) {B : Nat} {v : Value} (hs : a.eval s = v) (hown : Own W B v [])
    {ad : Addr} {cap : Nat} (hx : a.eval x = .slice (some ad) 0 cap) (hbase : B ≤ W.heap.size)
    (h : ∀ a' cap' W', Own W' B (.slice a' 0 cap') [] → Below B W W' → wpList Tryz.prog ops Q rest (a.put o.dst (.slice a' 0 cap')) W') : wpList Tryz.prog ops Q (o :: rest) a W := by
  obtain ⟨i0, hi, hz0, hz1, hz2⟩ := info_parts info_int
  refine wpList_append_own W hgd s x 24 ho B 3 i0 (.int .i64 0) 1 8 Tryz.underlying24 hi hz0 hz1 hz2 rfl (by decide) v 0 [] hs hown ad 0 cap [] hx (by simp) (fun j u hj => by simp at hj) (fun u hu => by cases hu) (by unfold maxLen; simp) (by simp) hbase ?_
  intro v' W' hown' hgrow _
  have ho2 : Own W' B v' [] := hown'
  have hB2 : Below B W W' := (Below.refl B W).grown hgrow hbase (fun k e => (World.ownsRow.lt hown k e).1)
  obtain ⟨a', cap', rfl, _⟩ := ho2.row
  exact h a' cap' W' ho2 hB2

set_option maxRecDepth 100000 in
set_option maxHeartbeats 1000000 in
/-- **slices.Clone** of any slice of ints. -/
theorem clone_row (a : Option Addr) (zs : List Int) (cap : Nat) (w : World) (hR : Row w a zs cap) (hl : zs.length < 100000) :
    Calls Tryz.prog 47 #[.slice a zs.length cap] w fun e W' => ∃ a' cap', e = .returned (.slice a' zs.length cap') ∧ Own W' w.heap.size (.slice a' zs.length cap') zs ∧ Below w.heap.size w W' := by
  by_cases h0 : 0 < zs.length
  · exact clone_any a zs cap w hR h0 hl
  · obtain rfl : zs = [] := List.length_eq_zero_iff.1 (by omega)
    have q22 : ∀ (w : World) (a : Option Addr) (n c n' c' : Nat), (binOp .eql 24 (.slice a n c) (.slice none n' c')).run Tryz.prog w = .ok (.bool a.isNone) w := fun w a n c n' c' => Lib.run_eql_slice_nil w _ _ a n c n' c' Tryz.underlying24
    have HO := Lib.hid (own_empty w w.heap.size (Nat.le_refl _))
    clear hR hl h0
    cases a with
    | none =>
      go_enter Tryz.func47, Tryz.ntmps47
      go_wp2_with fail
      go_ret
      exact ⟨none, 0, rfl, Own.nil _ _, Below.refl _ _⟩
    | some ad =>
      go_enter Tryz.func47, Tryz.ntmps47
      go_wp2_with (at_builtin; refine wpList_appNone rfl _ _ rfl rfl HO.out rfl (by simp) ?_; intro a' cap' W' hown' hb')
      go_ret
      exact ⟨a', cap', rfl, hown', ((Below.refl _ w).alloc (Nat.le_refl _) _).trans hb'⟩

theorem cut_row {W : World} {a : Option Addr} {cap : Nat} {zs ts : List Int} (h : Row W a zs cap) (hp : zs.take ts.length = ts) : ∃ a' c', cut a cap ts = .slice a' ts.length c' ∧ Row W a' ts c' ∧ ∀ B, Fresh B a zs → Fresh B a' ts := by
  unfold cut
  split
  · rename_i e; subst e; exact ⟨none, 0, rfl, ⟨Nat.le_refl _, by omega, fun j hj => by simp at hj⟩, fun B _ b off e => by cases e⟩
  · have hl : ts.length ≤ zs.length := by have := congrArg List.length hp; rw [List.length_take] at this; omega
    exact ⟨a, cap, rfl, ⟨Nat.le_trans hl h.room, h.most, fun j hj => by
      obtain ⟨b, off, e, hc⟩ := h.el j (by omega)
      refine ⟨b, off, e, hc.trans ?_⟩
      rw [← hp, M.el_take (by omega)]⟩, fun B hf b off e hl2 => hf b off e (by omega)⟩

theorem M.dig_top {y n : Nat} (hl : (M.dig y).length = n + 1) : 0 < M.el (M.dig y) n := by
  have h0 : y ≠ 0 := by rintro rfl; rw [M.dig_zero] at hl; simp at hl
  have h1 := M.dig_last h0
  rw [List.getLast?_eq_getElem?, List.getElem?_eq_getElem (by omega)] at h1
  have h2 := (M.lim_dig y).get n
  rcases Int.lt_or_eq_of_le h2.1 with h | h
  · exact h
  · exfalso; apply h1
    rw [M.el_lt (by omega)] at h
    simp only [hl, Nat.add_sub_cancel]
    rw [← h]

def DivPost (w : World) (x y : Nat) (e : Ending) (W : World) : Prop :=
  ∃ a1 c1 a2 c2, e = .returned (.tuple #[.slice a1 (M.dig (x / y)).length c1, .slice a2 (M.dig (x % y)).length c2]) ∧ Row W a1 (M.dig (x / y)) c1 ∧ Row W a2 (M.dig (x % y)) c2 ∧ Fresh w.heap.size a1 (M.dig (x / y)) ∧ Fresh w.heap.size a2 (M.dig (x % y)) ∧ Below w.heap.size w W

theorem trim_dig {zs : List Int} {n : Nat} (h : M.Lim zs) (hv : M.val zs = n) : M.trimL zs = M.dig n := by
  rw [M.trimL_dig h, hv, Int.toNat_natCast]

/-- Both slices are trimmed: the last lines of divideLimbs. -/
theorem trim_num (a : Option Addr) (zs : List Int) (cap n : Nat) (w : World) (hR : Row w a zs cap) (hl : M.Lim zs) (hv : M.val zs = n) :
    Calls Tryz.prog 48 #[.slice a zs.length cap] w fun e W' => ∃ a' c', e = .returned (.slice a' (M.dig n).length c') ∧ Row W' a' (M.dig n) c' ∧ (∀ B, Fresh B a zs → Fresh B a' (M.dig n)) ∧ Below w.heap.size w W' := by
  refine (trim_any a zs cap w hR).mono ?_
  rintro e W' ⟨rfl, hb⟩
  have ht := trim_dig hl hv
  obtain ⟨a', c', e1, r, f⟩ := cut_row (ts := M.trimL zs) (hR.below hb) (M.trimL_take zs)
  rw [e1]
  rw [ht] at r f ⊢
  exact ⟨a', c', rfl, r, f, hb⟩

set_option maxRecDepth 100000 in
set_option maxHeartbeats 1000000 in
theorem divideLimbs_any (a b : Option Addr) (ca cb x y : Nat) (w : World) (hy : 0 < y) (hx200 : (M.dig x).length ≤ 200) (hy200 : (M.dig y).length ≤ 200) (hA : Row w a (M.dig x) ca) (hB : Row w b (M.dig y) cb) :
    Calls Tryz.prog 134 #[.slice a (M.dig x).length ca, .slice b (M.dig y).length cb] w (DivPost w x y) := by
  have hy0 : 0 < (M.dig y).length := by
    rcases Nat.eq_zero_or_pos (M.dig y).length with h | h
    · have := M.dig_nil.1 (List.length_eq_zero_iff.1 h); omega
    · exact h
  by_cases hlt : (M.dig x).length < (M.dig y).length
  · have hxy : x < y := by
      have h1 : x < 16777216 ^ (M.dig x).length := M.dig_len_le.1 (Nat.le_refl _)
      by_cases h : x < y
      · exact h
      · have h2 : (M.dig y).length ≤ (M.dig x).length := M.dig_len_le.2 (by omega)
        omega
    have hcl := clone_row a (M.dig x) ca w hA (by omega)
    have HC := Lib.hid hcl
    have HXY := Lib.hid hxy
    clear hcl hxy hA hB hy
    go_enter Tryz.func134, Tryz.ntmps134
    go_wp2_with fail
    refine HC.out.mono ?_
    rintro e w' ⟨a', c', rfl, ho, hb⟩
    have HO := Lib.hid ho
    have HB := Lib.hid hb
    clear ho hb
    go_wp2_with fail
    go_ret2
    have e1 : x / y = 0 := Nat.div_eq_of_lt HXY.out
    have e2 : x % y = x := Nat.mod_eq_of_lt HXY.out
    refine ⟨none, 0, a', c', by rw [e1, e2, M.dig_zero]; rfl, ?_, ?_, (fun b off e => (by cases e)), ?_, HB.out⟩
    · rw [e1, M.dig_zero]; exact ⟨Nat.le_refl _, by omega, fun j hj => by simp at hj⟩
    · rw [e2]; exact HO.out.rowAt
    · rw [e2]; exact HO.out.fresh
  · by_cases h1 : (M.dig y).length = 1
    · have hyv := M.val_dig y
      obtain ⟨z, hz⟩ : ∃ z, M.dig y = [z] := List.length_eq_one_iff.1 h1
      have hlz := M.lim_dig y
      rw [hz] at hyv hlz
      have hzy : z = (y : Int) := by simpa [M.val] using hyv
      have hzb := hlz.head
      subst hzy
      obtain ⟨bb, bo, rfl, hc0⟩ := hB.el 0 hy0
      rw [hz] at hc0
      have hcl := clone_row a (M.dig x) ca w hA (by omega)
      have HC := Lib.hid hcl
      have hn : decide ((M.dig x).length < (M.dig y).length) = false := decide_eq_false hlt
      have HY1 := Lib.hid h1
      rw [h1] at hlt hn ⊢
      have hx1 : 1 ≤ (M.dig x).length := by omega
      have hbr := hB.room
      have hbm := hB.most
      rw [h1] at hbr
      clear hcl hA hB hz hyv hlz hlt h1
      simp only [M.el_zero, Nat.add_zero] at hc0
      go_enter Tryz.func134, Tryz.ntmps134
      go_wp2_with fail
      refine HC.out.mono ?_
      rintro e w1 ⟨a1, c1, rfl, ho, hb⟩
      have hc1 := cell_below hb hc0
      have HB := Lib.hid hb
      have hsh := shrink_any w.heap.size a1 c1 (M.dig x) y w1 hy (by omega) (M.lim_dig x) ho
      have HSH := Lib.hid hsh
      have HO1 := Lib.hid ho
      clear hb hsh ho hc0
      go_wp2_with fail
      refine HSH.out.mono ?_
      rintro e w2 ⟨rfl, ho2, hg2⟩
      obtain ⟨hs1, hs2⟩ := M.shr_nat hy (M.lim_dig x) (M.val_dig x)
      have HFQ : Hid (Fresh w.heap.size a1 (M.shr (y : Int) (M.dig x)).2) := ho2.fresh
      have HB2 := Lib.hid (HB.out.trans (below_of_grown HO1.out hg2 HB.out.size))
      rw [hs2]
      have hq2 : Row w2 a1 (M.shr (y : Int) (M.dig x)).2 c1 := (show Own w2 w.heap.size (.slice a1 (M.shr (y : Int) (M.dig x)).2.length c1) (M.shr (y : Int) (M.dig x)).2 by rw [M.shr_len]; exact ho2).rowAt
      have hvq : M.val (M.shr (y : Int) (M.dig x)).2 = ((x / y : Nat) : Int) := by
        have h1 := M.shr_val (y : Int) (M.dig x)
        rw [hs2, M.val_dig] at h1
        have h2 : ((x / y : Nat) : Int) * y + ((x % y : Nat) : Int) = x := by rw [← Int.natCast_mul, ← Int.natCast_add]; congr 1; exact Nat.div_add_mod' x y
        have h3 : M.val (M.shr (y : Int) (M.dig x)).2 * y = ((x / y : Nat) : Int) * y := by omega
        exact Int.eq_of_mul_eq_mul_right (by omega) h3
      have hlq := M.shr_lim (y : Int) (by omega) (M.lim_dig x)
      have HT1 := Lib.hid (fun (W : World) (hb : Below w2.heap.size w2 W) => trim_num a1 _ c1 (x / y) W (hq2.below hb) hlq hvq)
      have hrm : ((x % y : Nat) : Int) < 16777216 := by have := Nat.mod_lt x hy; omega
      have hrm0 : 0 ≤ ((x % y : Nat) : Int) := by omega
      obtain ⟨r, hr⟩ : ∃ r, x % y = r := ⟨_, rfl⟩
      rw [hr] at hrm hrm0 ⊢
      have hrow2 : Row (w2.alloc (.cells #[.int .i64 (r : Int)] 3)) (some ⟨w2.heap.size, 0, none⟩) [(r : Int)] 1 := ⟨Nat.le_refl _, by omega, fun j hj => ⟨_, 0, rfl, by
        obtain rfl : j = 0 := by simpa using hj
        simp⟩⟩
      have HT2 := Lib.hid (fun (W : World) (hb : Below (w2.alloc (.cells #[.int .i64 (r : Int)] 3)).heap.size (w2.alloc (.cells #[.int .i64 (r : Int)] 3)) W) => trim_num (some ⟨w2.heap.size, 0, none⟩) [(r : Int)] 1 r W (hrow2.below hb) (M.Lim.cons hrm0 hrm M.Lim.nil) (by simp [M.val]))
      have HR := Lib.hid hr
      rw [M.shr_len] at HT1
      clear hrow2 hq2 hvq hlq hs1 hs2 ho2 hg2 hr HSH HC HO1 HB
      go_wp2_with fail
      refine (HT1.out _ ((Below.refl _ _).alloc (Nat.le_refl _) _)).mono ?_
      rintro e w3 ⟨a3, c3, rfl, hr3, hf3, hb3⟩
      have HF3 := Lib.hid hf3
      have HR3 := Lib.hid hr3
      have HB3 := Lib.hid hb3
      clear hr3 hf3 hb3
      go_wp2_with fail
      refine (HT2.out _ HB3.out).mono ?_
      rintro e w4 ⟨a4, c4, rfl, hr4, hf4, hb4⟩
      have HF4 := Lib.hid hf4
      have HR4 := Lib.hid hr4
      have HB4 := Lib.hid hb4
      clear hr4 hf4 hb4
      go_wp2_with fail
      go_ret2
      refine ⟨a3, c3, a4, c4, by rw [HR.out]; rfl, HR3.out.below HB4.out, by rw [HR.out]; exact HR4.out, HF3.out _ HFQ.out, by rw [HR.out]; exact HF4.out _ (fun b off e _ => by cases e; exact HB2.out.size), ?_⟩
      exact (((HB2.out.alloc HB2.out.size _).trans (HB3.out.mono (by have := HB2.out.size; simp; omega))).trans (HB4.out.mono (by have := HB2.out.size; have := HB3.out.size; simp at this; omega)))
    · obtain ⟨n, hn⟩ : ∃ n, (M.dig y).length = n + 2 := ⟨(M.dig y).length - 2, by omega⟩
      obtain ⟨m, hm⟩ : ∃ m, (M.dig x).length = n + 2 + m := ⟨(M.dig x).length - (n + 2), by omega⟩
      have hlong := divideLong_any a b ca cb (M.dig x) (M.dig y) n m w hm hn (M.lim_dig x) (M.lim_dig y) (M.dig_top hn) (by omega) hA hB
      have hra := hA.room
      have hma := hA.most
      have hrb := hB.room
      have hmb := hB.most
      rw [hm] at hlt hra ⊢
      rw [hn] at hlt h1 hrb ⊢
      have hn1 : decide (n + 2 + m < n + 2) = false := decide_eq_false (by omega)
      have hn3 : (((n : Int) + 2) == 1) = false := by simp; omega
      have HL := Lib.hid hlong
      clear hlong hn hm hA hB hlt h1 hy0 hx200 hy200
      go_enter Tryz.func134, Tryz.ntmps134
      go_wp2_with fail
      refine HL.out.mono ?_
      rintro e w1 ⟨a1, c1, qs, a2, c2, rs, rfl, hr1, hr2, hl1, hl2, hv1, hv2, hf1, hf2, hb⟩
      have HF1 := Lib.hid hf1
      have HF2 := Lib.hid hf2
      rw [M.val_dig, M.val_dig, ← Int.natCast_ediv] at hv1
      rw [M.val_dig, M.val_dig, ← Int.natCast_emod] at hv2
      have HT1 := Lib.hid (trim_num a1 qs c1 (x / y) w1 hr1 hl1 hv1)
      have HT2 := Lib.hid (fun (W : World) (hb : Below w1.heap.size w1 W) => trim_num a2 rs c2 (x % y) W (hr2.below hb) hl2 hv2)
      have HB := Lib.hid hb
      clear hr1 hr2 hl1 hl2 hv1 hv2 hf1 hf2 hb HL
      go_wp2_with fail
      refine HT1.out.mono ?_
      rintro e w3 ⟨a3, c3, rfl, hr3, hf3, hb3⟩
      have HF3 := Lib.hid hf3
      have HR3 := Lib.hid hr3
      have HB3 := Lib.hid hb3
      clear hr3 hf3 hb3
      go_wp2_with fail
      refine (HT2.out _ HB3.out).mono ?_
      rintro e w4 ⟨a4, c4, rfl, hr4, hf4, hb4⟩
      have HF4 := Lib.hid hf4
      have HR4 := Lib.hid hr4
      have HB4 := Lib.hid hb4
      clear hr4 hf4 hb4
      go_wp2_with fail
      go_ret2
      refine ⟨a3, c3, a4, c4, rfl, HR3.out.below HB4.out, HR4.out, HF3.out _ HF1.out, HF4.out _ HF2.out, ?_⟩
      exact (HB.out.trans (HB3.out.mono HB.out.size)).trans (HB4.out.mono (Nat.le_trans HB.out.size HB3.out.size))
end Go.Proofs.YtmejneobfkbgeaaGreatDoor

namespace Go.Proofs.YtmejneobfkbgeaaGreatDoor
open Go Go.RowKit Go.Shelf

set_option maxHeartbeats 400000 in
/-- **ref01.limb** -/
theorem rlimb_any (a : Option Addr) (zs : List Int) (cap : Nat) (k : Nat) (w : World) (hR : Row w a zs cap) :
    Calls Tryz.prog 115 #[.agg #[.slice a zs.length cap], .int .i64 (k : Int)] w fun e W' => e = .returned (.int .i64 (M.el zs k)) ∧ Below w.heap.size w W' := by
  have hroom := hR.room
  have hmost := hR.most
  have hb := (Below.refl _ w).alloc (Nat.le_refl _) (.cells #[.slice a zs.length cap] 41)
  have HB := Lib.hid hb
  by_cases h : k < zs.length
  · obtain ⟨b, off, rfl, hc⟩ := hR.el k h
    have hc' := cell_below hb hc
    clear hb hc
    go_enter Tryz.func115, Tryz.ntmps115
    go_wp2
    go_ret
    exact ⟨rfl, HB.out⟩
  · have hz := Lib.hid (M.el_ge (zs := zs) (k := k) (by omega))
    clear hb
    go_enter Tryz.func115, Tryz.ntmps115
    go_wp2
    go_ret
    exact ⟨by rw [hz.out]; rfl, HB.out⟩

theorem Row.take {W : World} {a : Option Addr} {cap : Nat} {zs : List Int} (h : Row W a zs cap) (t : Nat) : Row W a (zs.take t) cap :=
  ⟨by have := h.room; rw [List.length_take]; omega, h.most, fun j hj => by
    rw [List.length_take] at hj
    obtain ⟨b, off, e, hc⟩ := h.el j (by omega)
    exact ⟨b, off, e, by rw [M.el_take (by omega)]; exact hc⟩⟩

theorem trimL_stop {zs : List Int} {k : Nat} (hk : k ≤ zs.length) (hz : ∀ j : Nat, k ≤ j → M.el zs j = 0) (h : k = 0 ∨ M.el zs (k - 1) ≠ 0) : (M.trimL zs).length = k := by
  rcases h with rfl | h
  · rw [M.trimL_none zs (fun j => hz j (Nat.zero_le _))]; rfl
  · rcases Nat.eq_zero_or_pos k with rfl | h0
    · rw [M.trimL_none zs (fun j => hz j (Nat.zero_le _))]; rfl
    · have := M.trimL_at zs (k - 1) h (fun i hi => hz i (by omega))
      omega

/-- The result is the number n, in memory made from block B on, or ErrLimit if it is too long. -/
def NatFit (B n : Nat) (e : Ending) (W : World) : Prop :=
  if (M.dig n).length ≤ 200 then ∃ v, e = .returned (.tuple #[v, .int .i64 0]) ∧ ∃ a c, v = .agg #[.slice a (M.dig n).length c] ∧ Row W a (M.dig n) c ∧ Fresh B a (M.dig n) else e = .returned (.tuple #[.agg #[.slice none 0 0], .int .i64 3])
theorem NatFit.ok {B n : Nat} {e : Ending} {W : World} (h : NatFit B n e W) (hl : (M.dig n).length ≤ 200) : ∃ v, e = .returned (.tuple #[v, .int .i64 0]) ∧ ∃ a c, v = .agg #[.slice a (M.dig n).length c] ∧ Row W a (M.dig n) c ∧ Fresh B a (M.dig n) := by
  unfold NatFit at h; rwa [if_pos hl] at h
theorem NatFit.limit {B n : Nat} {e : Ending} {W : World} (h : NatFit B n e W) (hl : ¬ (M.dig n).length ≤ 200) : e = .returned (.tuple #[.agg #[.slice none 0 0], .int .i64 3]) := by
  unfold NatFit at h; rwa [if_neg hl] at h

def FitRel (zs : List Int) (i : Value) : Prop := ∃ k : Nat, i = .int .i64 (k : Int) ∧ k ≤ zs.length ∧ ∀ j : Nat, k ≤ j → M.el zs j = 0

set_option maxRecDepth 100000 in
set_option maxHeartbeats 1000000 in
/-- **ref01.fit**, of a slice that is not nil. -/
theorem rfit_trim (b off : Nat) (zs : List Int) (cap n : Nat) (w : World) (hR : Row w (some ⟨b, off, none⟩) zs cap) (ht : M.trimL zs = M.dig n) :
    Calls Tryz.prog 114 #[.slice (some ⟨b, off, none⟩) zs.length cap] w fun e W' => NatFit w.heap.size n e W' ∧ Below w.heap.size w W' := by
  have hroom := hR.room
  have hmost := hR.most
  have hb := (Below.refl _ w).alloc (Nat.le_refl _) (.cells #[.slice none 0 0] 41)
  have HR := Lib.hid (hR.below hb)
  have HT := Lib.hid ht
  have HB := Lib.hid hb
  have c2 := cell_new w (.slice none 0 0) 41
  have f2 := frozen_new w (.slice none 0 0) 41
  clear hR ht hb
  go_enter Tryz.func114, Tryz.ntmps114
  go_wp2_with fail
  go_loop [4] (fun i => FitRel zs i) (fun i => (intOf i).toNat)
  case atStart => exact ⟨zs.length, rfl, Nat.le_refl _, fun j hj => M.el_ge hj⟩
  case round =>
    obtain ⟨k, rfl, hk, hz⟩ := hrel
    have HZ := Lib.hid hz
    clear hz
    by_cases hgo : 0 < k ∧ M.el zs (k - 1) = 0
    · obtain ⟨h0, he⟩ := hgo
      have hc := HR.out.cell (k - 1) (by omega)
      have e1 : off + ((k : Int) - 1).toNat = off + (k - 1) := by omega
      rw [he] at hc
      have HE := Lib.hid he
      clear he
      have ecast : (k : Int) - 1 = ((k - 1 : Nat) : Int) := by omega
      have HEC := Lib.hid ecast
      clear ecast
      go_wp2_with fail
      go_round
      case rel => exact ⟨k - 1, by rw [HEC.out], by omega, fun j hj => by
        rcases Nat.lt_or_ge j k with h | h
        · rw [show j = k - 1 by omega]; exact HE.out
        · exact HZ.out j h⟩
      case measure => simp [intOf]; omega
    · have hst : (M.trimL zs).length = k := trimL_stop hk HZ.out (by
        rcases Nat.eq_zero_or_pos k with h | h
        · exact .inl h
        · exact .inr (fun e => hgo ⟨h, e⟩))
      have htk : zs.take k = M.dig n := by rw [← HT.out, ← hst, M.trimL_take]
      have hdl : (M.dig n).length = k := by rw [← HT.out]; exact hst
      have hfin : ∀ (P : Prop), (0 < k → (decide (M.el zs (k - 1) = 0) = false) → P) → (k = 0 → P) → P := fun P h1 h2 => by
        rcases Nat.eq_zero_or_pos k with h | h
        · exact h2 h
        · exact h1 h (decide_eq_false fun e => hgo ⟨h, e⟩)
      have hrt := HR.out.take k
      rw [htk] at hrt
      have HRT := Lib.hid hrt
      clear hst htk hgo hrt
      subst hdl
      refine hfin _ ?_ ?_
      · intro h0 hne
        have hc := HR.out.cell ((M.dig n).length - 1) (by omega)
        have e1 : off + (((M.dig n).length : Int) - 1).toNat = off + ((M.dig n).length - 1) := by omega
        have hne2 : (M.el zs ((M.dig n).length - 1) == 0) = false := by rw [beq_eq_false_iff_ne]; exact of_decide_eq_false hne
        obtain ⟨z, hz⟩ : ∃ z, M.el zs ((M.dig n).length - 1) = z := ⟨_, rfl⟩
        rw [hz] at hc hne2
        clear hne hfin hz
        by_cases h200 : (M.dig n).length ≤ 200
        · go_wp2_with (at_builtin; refine wpList_appAll rfl _ _ rfl rfl (Own.nil _ (w.heap.size + 1)) rfl HRT.out (by simp; omega) (by simp) ?_; intro a' cap' W' hown' hb'; have d2 := (hb'.cell (p := ⟨w.heap.size, 0, none⟩) (by simp)).trans c2; have g2 := (hb'.frozen (p := ⟨w.heap.size, 0, none⟩) (by simp)).trans f2)
          refine bodyPost_ret (v := .tuple #[.agg #[.slice a' (M.dig n).length cap'], .int .i64 0]) (by simp [results, Tryz.results114, go_sem, d2]) rfl ⟨by unfold NatFit; rw [if_pos h200]; exact ⟨_, rfl, a', cap', rfl, (hown'.setBelow (p := ⟨w.heap.size, 0, none⟩) (by simp) (.slice a' (M.dig n).length cap')).rowAt, (hown'.mono (B' := w.heap.size) (by omega)).fresh⟩, ?_⟩
          · exact (HB.out.trans (hb'.mono (by omega))).setCell (p := ⟨w.heap.size, 0, none⟩) (Nat.le_refl _) _
        · go_wp2_with fail
          refine bodyPost_ret (v := .tuple #[.agg #[.slice none 0 0], .int .i64 3]) (by simp [results, Tryz.results114, go_sem, c2]) rfl ⟨by unfold NatFit; rw [if_neg h200], HB.out⟩
      · intro h0
        obtain rfl : n = 0 := M.dig_nil.1 (List.length_eq_zero_iff.1 h0)
        have hd0 : ((M.dig 0).length : Int) = 0 := by rw [M.dig_zero]; rfl
        have hdn : (M.dig 0).length = 0 := by rw [M.dig_zero]; rfl
        clear hfin hk HZ
        rw [hd0]
        go_wp2_with (at_builtin; refine wpList_appNone rfl _ _ rfl rfl (Own.nil _ (w.heap.size + 1)) rfl (by simp) ?_; intro a' cap' W' hown' hb'; have d2 := (hb'.cell (p := ⟨w.heap.size, 0, none⟩) (by simp)).trans c2; have g2 := (hb'.frozen (p := ⟨w.heap.size, 0, none⟩) (by simp)).trans f2)
        have hn := (hown'.setBelow (p := ⟨w.heap.size, 0, none⟩) (by simp) (.slice a' 0 cap'))
        refine bodyPost_ret (v := .tuple #[.agg #[.slice a' 0 cap'], .int .i64 0]) (by simp [results, Tryz.results114, go_sem, d2]) rfl ⟨by unfold NatFit; rw [if_pos (by rw [M.dig_zero]; simp)]; exact ⟨_, rfl, a', cap', by rw [hdn], by rw [M.dig_zero]; exact hn.rowAt, fun b off e hl => by rw [M.dig_zero] at hl; simp at hl⟩, ?_⟩
        · exact (HB.out.trans (hb'.mono (by omega))).setCell (p := ⟨w.heap.size, 0, none⟩) (Nat.le_refl _) _

set_option maxRecDepth 100000 in
set_option maxHeartbeats 1000000 in
/-- **ref01.Valid** of a valid number. -/
theorem rvalid_yes (a : Option Addr) (zs : List Int) (cap : Nat) (w : World) (hR : Row w a zs cap) (hV : Vld zs) :
    Calls Tryz.prog 110 #[.agg #[.slice a zs.length cap]] w fun e W' => e = .returned (.bool true) ∧ Below w.heap.size w W' := by
  have hroom := hR.room
  have hmost := hR.most
  have hb := (Below.refl _ w).alloc (Nat.le_refl _) (.cells #[.slice a zs.length cap] 41)
  have HR := Lib.hid (hR.below hb)
  have HB := Lib.hid hb
  have HV := Lib.hid hV
  have c0 := cell_new w (.slice a zs.length cap) 41
  have hl200 : zs.length ≤ 200 := hV.len
  clear hR hb hV
  by_cases h0 : 0 < zs.length
  · have htop := HV.out.last h0
    obtain ⟨b, off, rfl, hc⟩ := HR.out.el (zs.length - 1) (by omega)
    have e1 : off + ((zs.length : Int) - 1).toNat = off + (zs.length - 1) := by omega
    have hne : (M.el zs (zs.length - 1) == 0) = false := beq_eq_false_iff_ne.2 htop
    have HTOP := Lib.hid htop
    clear htop
    go_enter Tryz.func110, Tryz.ntmps110
    go_wp2_with fail
    clear hc e1 hne
    go_loop [4] (fun i => ∃ k : Nat, k ≤ zs.length ∧ i = .int .i64 k) (fun i => zs.length - (intOf i).toNat)
    case atStart => exact ⟨0, Nat.zero_le _, rfl⟩
    case round =>
      obtain ⟨k, hk, rfl⟩ := hrel
      have hl := HV.out.lim.get k
      by_cases hlt : k < zs.length
      · have hck := HR.out.cell k hlt
        go_wp2_with fail
        go_round
        case rel => exact ⟨k + 1, by omega, by go_num⟩
        case measure => simp [intOf]; omega
      · go_wp2_with fail
        go_ret
        exact ⟨rfl, HB.out⟩
  · obtain rfl : zs = [] := List.length_eq_zero_iff.1 (by omega)
    clear h0 HR HV
    go_enter Tryz.func110, Tryz.ntmps110
    go_wp2_with fail
    go_loop [4] (fun i => i = .int .i64 0) (fun _ => 0)
    case atStart => rfl
    case round =>
      obtain rfl := hrel
      go_wp2_with fail
      go_ret
      exact ⟨rfl, HB.out⟩

set_option maxRecDepth 100000 in
set_option maxHeartbeats 1000000 in
/-- **ref01.Cmp** of two numbers. -/
theorem rcmp_any (a b : Option Addr) (ca cb x y : Nat) (w : World) (hA : Row w a (M.dig x) ca) (hB : Row w b (M.dig y) cb) :
    Calls Tryz.prog 111 #[.agg #[.slice a (M.dig x).length ca], .agg #[.slice b (M.dig y).length cb]] w fun e W' => e = .returned (.int .i64 (Lib.compareInt (x : Int) (y : Int))) ∧ Below w.heap.size w W' := by
  have hb := ((Below.refl _ w).alloc (Nat.le_refl _) (.cells #[.slice a (M.dig x).length ca] 41)).alloc (by simp) (.cells #[.slice b (M.dig y).length cb] 41)
  have HA := Lib.hid (hA.below hb)
  have HB := Lib.hid (hB.below hb)
  have HBB := Lib.hid hb
  have hra := hA.room
  have hma := hA.most
  have hrb := hB.room
  have hmb := hB.most
  clear hA hB hb
  by_cases hl : (M.dig x).length = (M.dig y).length
  · have hne : (((M.dig x).length : Int) != ((M.dig y).length : Int)) = false := by rw [hl]; simp
    have HL := Lib.hid hl
    rw [← hl] at hrb
    clear hl
    go_enter Tryz.func111, Tryz.ntmps111
    go_wp2_with fail
    clear hne
    have c0 := cell_later (.cells #[.slice b (M.dig y).length cb] 41) (cell_new w (.slice a (M.dig x).length ca) 41)
    have c1 := cell_new (w.alloc (.cells #[.slice a (M.dig x).length ca] 41)) (.slice b (M.dig y).length cb) 41
    simp only [World.size_alloc] at c1
    generalize ((w.alloc (.cells #[.slice a (M.dig x).length ca] 41)).alloc (.cells #[.slice b (M.dig y).length cb] 41)) = w3 at *
    go_loopw [5] (fun i wr => (∃ k : Nat, k ≤ (M.dig x).length ∧ i = .int .i64 ((k : Int) - 1) ∧ ∀ j : Nat, k ≤ j → M.el (M.dig x) j = M.el (M.dig y) j) ∧ ∃ q, wr = w3.drewN q) (fun i _ => (intOf i + 1).toNat)
    case atStart => exact ⟨⟨(M.dig x).length, Nat.le_refl _, rfl, fun j hj => by rw [M.el_ge hj, M.el_ge (by rw [← HL.out]; exact hj)]⟩, 0, rfl⟩
    case round =>
      obtain ⟨⟨k, hk, rfl, hz⟩, q, rfl⟩ := hrel
      have HZ := Lib.hid hz
      clear hz
      cases k with
      | zero =>
        have hres := compare_same x y HL.out (fun j => HZ.out j (Nat.zero_le _))
        have HRES := Lib.hid hres
        clear hres
        go_wp2_with fail
        go_ret
        exact ⟨by rw [HRES.out]; rfl, belowN HBB.out q⟩
      | succ k =>
        have hky : k < (M.dig y).length := by rw [← HL.out]; omega
        obtain ⟨b1, o1, rfl, hca⟩ := HA.out.el k (by omega)
        obtain ⟨b2, o2, rfl, hcb⟩ := HB.out.el k hky
        have e1 : ((k + 1 : Nat) : Int) - 1 = (k : Int) := by omega
        rw [e1]
        obtain ⟨zx, hzx⟩ : ∃ zx, M.el (M.dig x) k = zx := ⟨_, rfl⟩
        obtain ⟨zy, hzy⟩ : ∃ zy, M.el (M.dig y) k = zy := ⟨_, rfl⟩
        rw [hzx] at hca
        rw [hzy] at hcb
        have HZX := Lib.hid hzx
        have HZY := Lib.hid hzy
        have hk1 : (k : Int) < ((M.dig x).length : Int) := by omega
        have hk2 : (k : Int) < ((M.dig y).length : Int) := by omega
        have hk0 : (0 : Int) ≤ (k : Int) := by omega
        clear e1 hzx hzy
        rcases Int.lt_trichotomy zx zy with h | h | h
        · have hd : decide (zx < zy) = true := decide_eq_true h
          have hres := compare_top x y HL.out k (by omega) (fun j hj => HZ.out j (by omega)) (by rw [HZX.out, HZY.out]; omega)
          rw [HZX.out, HZY.out, compare_lt h] at hres
          have HRES := Lib.hid hres
          clear hres
          go_wp2_with fail
          go_quiet (fail)
          go_wp2_with fail
          go_ret
          exact ⟨by rw [← HRES.out]; rfl, belowN (belowN HBB.out q) _⟩
        · subst h
          have hd : decide (zx < zx) = false := decide_eq_false (by omega)
          have hel : M.el (M.dig x) k = M.el (M.dig y) k := by rw [HZX.out, HZY.out]
          have HEL := Lib.hid hel
          clear hel
          go_wp2_with fail
          go_quiet (fail)
          go_wp2_with fail
          go_quiet (fail)
          go_wp2_with fail
          go_roundw
          case rel => exact ⟨⟨k, by omega, rfl, fun j hj => by
            rcases Nat.lt_or_ge k j with h | h
            · exact HZ.out j (by omega)
            · rw [show j = k by omega]; exact HEL.out⟩, _, rfl⟩
          case measure => simp [intOf]
        · have hd : decide (zx < zy) = false := decide_eq_false (by omega)
          have hd2 : decide (zy < zx) = true := decide_eq_true h
          have hres := compare_top x y HL.out k (by omega) (fun j hj => HZ.out j (by omega)) (by rw [HZX.out, HZY.out]; omega)
          rw [HZX.out, HZY.out, compare_gt h] at hres
          have HRES := Lib.hid hres
          clear hres
          go_wp2_with fail
          go_quiet (fail)
          go_wp2_with fail
          go_quiet (fail)
          go_wp2_with fail
          go_ret
          exact ⟨by rw [← HRES.out]; rfl, belowN (belowN (belowN HBB.out q) _) _⟩
  · have hne : (((M.dig x).length : Int) != ((M.dig y).length : Int)) = true := by rw [bne_iff_ne]; omega
    have hres := compare_len x y hl
    rcases Nat.lt_or_gt_of_ne hl with h | h
    · have hd : decide ((M.dig x).length < (M.dig y).length) = true := decide_eq_true h
      rw [compare_lt (by omega)] at hres
      have HRES := Lib.hid hres
      clear hres
      go_enter Tryz.func111, Tryz.ntmps111
      go_wp2_with fail
      go_ret
      exact ⟨by rw [← HRES.out]; rfl, HBB.out⟩
    · have hd : decide ((M.dig x).length < (M.dig y).length) = false := decide_eq_false (by omega)
      rw [compare_gt (by omega)] at hres
      have HRES := Lib.hid hres
      clear hres
      go_enter Tryz.func111, Tryz.ntmps111
      go_wp2_with fail
      go_ret
      exact ⟨by rw [← HRES.out]; rfl, HBB.out⟩
end Go.Proofs.YtmejneobfkbgeaaGreatDoor

namespace Go.Proofs.YtmejneobfkbgeaaGreatDoor
open Go Go.RowKit Go.Shelf

def RMulRel (w w2 : World) (g x y : Nat) (i : Value) (W : World) : Prop :=
  ∃ (k : Nat) (zs : List Int), i = .int .i64 (k : Int) ∧ k ≤ (M.dig x).length ∧ zs.length = (M.dig x).length + (M.dig y).length + 1 ∧ M.Lim zs ∧ (∀ m : Nat, k + (M.dig y).length ≤ m → M.el zs m = 0) ∧
    M.val zs = M.val ((M.dig x).take k) * y ∧ Own W (w.heap.size + 2) (.slice (some ⟨g, 0, none⟩) zs.length zs.length) zs ∧ Below w2.heap.size w2 W

def RMulIn (w w2 : World) (g x y k : Nat) (c i : Value) (W : World) : Prop :=
  ∃ (j : Nat) (zs : List Int) (q : Int), i = .int .i64 (j : Int) ∧ c = .int .i64 q ∧ j ≤ (M.dig y).length + 1 ∧ zs.length = (M.dig x).length + (M.dig y).length + 1 ∧ M.Lim zs ∧ (∀ m : Nat, k + 1 + (M.dig y).length ≤ m → M.el zs m = 0) ∧
    (j ≤ (M.dig y).length → M.el zs (k + (M.dig y).length) = 0) ∧ 0 ≤ q ∧ q < 16777216 ∧ (j = (M.dig y).length + 1 → q = 0) ∧
    M.val zs + 16777216 ^ (k + j) * q = M.val ((M.dig x).take k) * y + 16777216 ^ k * (M.el (M.dig x) k * M.val ((M.dig y).take j)) ∧ Own W (w.heap.size + 2) (.slice (some ⟨g, 0, none⟩) zs.length zs.length) zs ∧ Below w2.heap.size w2 W

set_option maxRecDepth 100000 in
set_option maxHeartbeats 2000000 in
/-- **ref01.mul** -/
theorem rmul_any (a b : Option Addr) (ca cb x y : Nat) (w : World) (hx : (M.dig x).length ≤ 200) (hy : (M.dig y).length ≤ 200) (hA : Row w a (M.dig x) ca) (hB : Row w b (M.dig y) cb) :
    Calls Tryz.prog 142 #[.agg #[.slice a (M.dig x).length ca], .agg #[.slice b (M.dig y).length cb]] w fun e W' => ∃ g zs, e = .returned (.slice (some ⟨g, 0, none⟩) zs.length zs.length) ∧ Row W' (some ⟨g, 0, none⟩) zs zs.length ∧ M.trimL zs = M.dig (x * y) ∧ Below w.heap.size w W' := by
  have hb := ((Below.refl _ w).alloc (Nat.le_refl _) (.cells #[.slice a (M.dig x).length ca] 41)).alloc (by simp) (.cells #[.slice b (M.dig y).length cb] 41)
  have HA := Lib.hid (hA.below hb)
  have HB := Lib.hid (hB.below hb)
  have HBB := Lib.hid hb
  have hra := hA.room
  have hma := hA.most
  have hrb := hB.room
  have hmb := hB.most
  have c0 := cell_later (.cells #[.slice b (M.dig y).length cb] 41) (cell_new w (.slice a (M.dig x).length ca) 41)
  have c1 := cell_new (w.alloc (.cells #[.slice a (M.dig x).length ca] 41)) (.slice b (M.dig y).length cb) 41
  simp only [World.size_alloc] at c1
  have hs2 : ((w.alloc (.cells #[.slice a (M.dig x).length ca] 41)).alloc (.cells #[.slice b (M.dig y).length cb] 41)).heap.size = w.heap.size + 2 := by simp
  have HC := Lib.hid (And.intro c0 c1)
  clear hA hB hb c0 c1
  go_enter Tryz.func142, Tryz.ntmps142
  go_wp2_with (at_make; refine wpList_make1 rfl _ _ rfl ((M.dig x).length + (M.dig y).length + 1) rfl rfl (by omega) (by omega) (B := w.heap.size + 2) (by rw [hs2]; exact Nat.le_refl _) ?_; intro w6 hown6 hb6)
  generalize ((w.alloc (.cells #[.slice a (M.dig x).length ca] 41)).alloc (.cells #[.slice b (M.dig y).length cb] 41)) = w2 at *
  have HS2 := Lib.hid hs2
  rw [hs2] at hown6
  rw [← hs2] at hb6
  clear hs2
  go_loopw [6] (fun i wr => RMulRel w w2 (w.heap.size + 2) x y i wr) (fun i _ => (M.dig x).length - (intOf i).toNat)
  case atStart => exact ⟨0, _, rfl, Nat.zero_le _, List.length_replicate, M.Lim.replicate _, fun m _ => M.el_replicate _ _, by simp [M.val_replicate, M.val], by simpa using hown6, hb6⟩
  case round =>
    obtain ⟨k, zs, rfl, hk, hlen, hlim, hz, hval, hown, hbW⟩ := hrel
    clear hown6 hb6
    have c0 := cell_below hbW HC.out.1
    have c1 := cell_below hbW HC.out.2
    have hrow := HA.out.below hbW
    by_cases hlt : k < (M.dig x).length
    · have hax := (M.lim_dig x).get k
      obtain ⟨ex, hex⟩ : ∃ ex, M.el (M.dig x) k = ex := ⟨_, rfl⟩
      obtain ⟨b1, o1, rfl, hca0⟩ := HA.out.el k hlt
      rw [hex] at hax hca0
      have HCA := Lib.hid hca0
      have HEX := Lib.hid hex
      have hi0 : RMulIn w w2 (w.heap.size + 2) x y k (.int .i64 0) (.int .i64 0) wr := ⟨0, zs, 0, rfl, rfl, by omega, hlen, hlim, fun m hm => hz m (by omega), fun _ => hz _ (Nat.le_refl _), by omega, by omega, fun h => rfl, by rw [hval]; simp [M.val], hown, hbW⟩
      have HI0 := Lib.hid hi0
      clear hi0 hex hca0 hrow hlen hlim hz hval hown hbW
      go_wp2_with fail
      clear c0 c1
      go_loopw [7, 8] (fun c i wr => RMulIn w w2 (w.heap.size + 2) x y k c i wr) (fun _ i _ => (M.dig y).length + 1 - (intOf i).toNat)
      case atStart => exact HI0.out
      case round =>
        clear HI0
        obtain ⟨j, zs, q, rfl, rfl, hj, hlen, hlim, hz, hz1, hq0, hq1, hq2, hval, hown, hbW⟩ := hrel
        have c0 := cell_below hbW HC.out.1
        have c1 := cell_below hbW HC.out.2
        have hcx := cell_below hbW HCA.out
        have HBW := Lib.hid hbW
        have HVAL := Lib.hid hval
        have HLN := Lib.hid hlen
        have HLIM := Lib.hid hlim
        have HZ := Lib.hid hz
        have HZ1 := Lib.hid hz1
        have HQ2 := Lib.hid hq2
        have HOWN := Lib.hid hown
        have HLB := Lib.hid (rlimb_any b (M.dig y) cb j wr.drew ((HB.out.below hbW).drewN 1))
        have hsW := hbW.size
        clear hval hlen hlim hown hz hz1 hq2 hbW
        by_cases hgo : j < (M.dig y).length ∨ 0 < q
        · have hjl : j ≤ (M.dig y).length := by
            rcases hgo with h | h
            · omega
            · rcases Nat.lt_or_ge j ((M.dig y).length + 1) with h1 | h1
              · omega
              · have := HQ2.out (by omega); omega
          have hby := (M.lim_dig y).get j
          obtain ⟨ey, hey⟩ : ∃ ey, M.el (M.dig y) j = ey := ⟨_, rfl⟩
          rw [hey] at hby HLB
          have HEY := Lib.hid hey
          have hmb := M.mul_bound hax hby
          have hez := HLIM.out.get (k + j)
          obtain ⟨hgB, hcz, hfz⟩ := HOWN.out.at (k + j) (by rw [HLN.out]; omega)
          obtain ⟨ez, hez'⟩ : ∃ ez, M.el zs (k + j) = ez := ⟨_, rfl⟩
          rw [hez'] at hez hcz
          have HEZ := Lib.hid hez'
          obtain ⟨pr, hpr⟩ : ∃ pr, ex * ey = pr := ⟨_, rfl⟩
          rw [hpr] at hmb
          have hwp : IntKind.i64.wrap (ex * ey) = pr := by rw [hpr, IntKind.wrap_i64]; omega
          have HPR := Lib.hid hpr
          obtain ⟨s1, hs1⟩ : ∃ s1, s1 = ez + pr := ⟨_, rfl⟩
          obtain ⟨v, hv⟩ : ∃ v, v = s1 + q := ⟨_, rfl⟩
          have hws : IntKind.i64.wrap (ez + pr) = s1 := by rw [IntKind.wrap_i64]; omega
          have hwv : IntKind.i64.wrap (s1 + q) = v := by rw [IntKind.wrap_i64]; omega
          have hvv : v = q + (ez + pr) := by omega
          have hv0 : 0 ≤ v := by omega
          have hv1 : v ≤ 281474976710655 := by omega
          have hwi : IntKind.i64.wrap ((k : Int) + (j : Int)) = (k : Int) + (j : Int) := by rw [IntKind.wrap_i64]; omega
          have hi0 : (0 : Int) ≤ (k : Int) + (j : Int) := by omega
          have hi1 : ((k : Int) + (j : Int)).toNat = k + j := by omega
          have hi2 : (k : Int) + (j : Int) < ((M.dig x).length : Int) + ((M.dig y).length : Int) + 1 := by omega
          have hi3 : (k : Int) < ((M.dig x).length : Int) := by omega
          have hi4 : (0 : Int) ≤ (k : Int) := by omega
          have hbd : Below wr.heap.size wr wr.drew := belowN (Below.refl _ _) 1
          have HVV := Lib.hid hvv
          have hgwr : w.heap.size + 2 < wr.heap.size := lt_of_cell hcz
          clear hey hez' hpr hvv hs1 hv
          have htst : ∀ (P : Prop), ((decide (j < (M.dig y).length) = true) → P) → ((decide (j < (M.dig y).length) = false) → (decide (0 < q) = true) → P) → P := fun P h1 h2 => by
            by_cases h : j < (M.dig y).length
            · exact h1 (decide_eq_true h)
            · exact h2 (decide_eq_false h) (decide_eq_true (by rcases hgo with h' | h'; exact absurd h' h; exact h'))
          refine htst _ ?_ ?_
          · intro ht
            clear htst hgo
            go_wp2_with fail
            go_region_held3 (fun w' => w'.cell? ⟨w.heap.size, 0, none⟩ = some (.slice (some ⟨b1, o1, none⟩) (M.dig x).length ca) ∧ w'.cell? ⟨w.heap.size + 1, 0, none⟩ = some (.slice b (M.dig y).length cb) ∧ w'.cell? ⟨b1, o1 + k, none⟩ = some (.int .i64 ex) ∧ w'.cell? ⟨w.heap.size + 2, k + j, none⟩ = some (.int .i64 ez))
              (first | exact ⟨c0, c1, hcx, hcz⟩ | exact ⟨cell_below hbq c0, cell_below hbq c1, cell_below hbq hcx, cell_below hbq hcz⟩)
              (first
                | (go_at_call 115; (with_reducible refine HLB.out.mono ?_); rintro e wq ⟨rfl, hbq⟩))
            have hczq := cell_below hbq hcz
            have hfzq := frozen_below hbq hcz hfz
            have hbwq := hbd.trans (hbq.mono (Nat.le_refl _))
            have HOQ := Lib.hid (HOWN.out.below hbwq)
            have HBQ := Lib.hid (HBW.out.trans (hbwq.mono hsW))
            have hgwq : w.heap.size + 2 < wq.heap.size := lt_of_cell hczq
            clear hws hwv hwp hwi hbq hbwq hbd hcx hcz hfz c0 c1
            try clear hHeld
            go_wp2_with fail
            go_roundw
            case rel =>
              have hkj : k + j < zs.length := by rw [HLN.out]; omega
              refine ⟨j + 1, zs.set (k + j) (v % 16777216), v / 16777216, by go_num, rfl, by omega, by rw [List.length_set]; exact HLN.out, HLIM.out.set _ (by omega) (by omega), fun m hm => ?_, fun hj1 => ?_, by omega, by omega, fun hj1 => ?_, ?_, by simp only [List.length_set]; exact HOQ.out.set _ _, HBQ.out.setCell (p := ⟨w.heap.size + 2, k + j, none⟩) (by rw [HS2.out]; exact Nat.le_refl _) _⟩
              · rw [M.el_set _ _ _ _ hkj, if_neg (by omega)]; exact HZ.out m hm
              · rw [M.el_set _ _ _ _ hkj, if_neg (by omega)]; exact HZ1.out hjl
              · have hjy : j = (M.dig y).length := by omega
                have e1 := HEY.out
                rw [M.el_ge (by omega)] at e1
                have e2 := HEZ.out
                rw [hjy, HZ1.out hjl] at e2
                have e3 := HPR.out
                rw [← e1, Int.mul_zero] at e3
                have e4 := HVV.out
                omega
              · rw [M.val_set _ _ _ hkj, M.val_take_succ', ← Nat.add_assoc, Int.pow_succ, HVV.out, ← HPR.out, ← HEZ.out, ← HEY.out, ← HEX.out]
                exact M.mul_step (Int.pow_add ..) HVAL.out
            case measure => simp [intOf]; omega
          · intro ht ht2
            clear htst hgo
            go_wp2_with fail
            go_region_held3 (fun w' => w'.cell? ⟨w.heap.size, 0, none⟩ = some (.slice (some ⟨b1, o1, none⟩) (M.dig x).length ca) ∧ w'.cell? ⟨w.heap.size + 1, 0, none⟩ = some (.slice b (M.dig y).length cb) ∧ w'.cell? ⟨b1, o1 + k, none⟩ = some (.int .i64 ex) ∧ w'.cell? ⟨w.heap.size + 2, k + j, none⟩ = some (.int .i64 ez))
              (first | exact ⟨c0, c1, hcx, hcz⟩ | exact ⟨cell_below hbq c0, cell_below hbq c1, cell_below hbq hcx, cell_below hbq hcz⟩)
              (first
                | (go_at_call 115; (with_reducible refine HLB.out.mono ?_); rintro e wq ⟨rfl, hbq⟩))
            have hczq := cell_below hbq hcz
            have hfzq := frozen_below hbq hcz hfz
            have hbwq := hbd.trans (hbq.mono (Nat.le_refl _))
            have HOQ := Lib.hid (HOWN.out.below hbwq)
            have HBQ := Lib.hid (HBW.out.trans (hbwq.mono hsW))
            have hgwq : w.heap.size + 2 < wq.heap.size := lt_of_cell hczq
            clear hws hwv hwp hwi hbq hbwq hbd hcx hcz hfz c0 c1
            try clear hHeld
            go_wp2_with fail
            go_roundw
            case rel =>
              have hkj : k + j < zs.length := by rw [HLN.out]; omega
              refine ⟨j + 1, zs.set (k + j) (v % 16777216), v / 16777216, by go_num, rfl, by omega, by rw [List.length_set]; exact HLN.out, HLIM.out.set _ (by omega) (by omega), fun m hm => ?_, fun hj1 => ?_, by omega, by omega, fun hj1 => ?_, ?_, by simp only [List.length_set]; exact HOQ.out.set _ _, HBQ.out.setCell (p := ⟨w.heap.size + 2, k + j, none⟩) (by rw [HS2.out]; exact Nat.le_refl _) _⟩
              · rw [M.el_set _ _ _ _ hkj, if_neg (by omega)]; exact HZ.out m hm
              · rw [M.el_set _ _ _ _ hkj, if_neg (by omega)]; exact HZ1.out hjl
              · have hjy : j = (M.dig y).length := by omega
                have e1 := HEY.out
                rw [M.el_ge (by omega)] at e1
                have e2 := HEZ.out
                rw [hjy, HZ1.out hjl] at e2
                have e3 := HPR.out
                rw [← e1, Int.mul_zero] at e3
                have e4 := HVV.out
                omega
              · rw [M.val_set _ _ _ hkj, M.val_take_succ', ← Nat.add_assoc, Int.pow_succ, HVV.out, ← HPR.out, ← HEZ.out, ← HEY.out, ← HEX.out]
                exact M.mul_step (Int.pow_add ..) HVAL.out
            case measure => simp [intOf]; omega
        · have hj1 : ¬ j < (M.dig y).length := fun h => hgo (.inl h)
          have hq : q = 0 := by
            have : ¬ 0 < q := fun h => hgo (.inr h)
            omega
          subst hq
          have ht1 : decide (j < (M.dig y).length) = false := decide_eq_false hj1
          clear hgo hj1
          go_wp2_with fail
          go_roundw
          case rel =>
            refine ⟨k + 1, zs, by go_num, by omega, HLN.out, HLIM.out, fun m hm => HZ.out m (by omega), ?_, HOWN.out, HBW.out⟩
            have hv := HVAL.out
            rw [List.take_of_length_le (l := M.dig y) (by have := of_decide_eq_false ht1; omega), M.val_dig] at hv
            have := M.mul_row hv
            rw [M.val_take_succ']
            simpa using this
          case measure => simp [intOf]; omega
    · have hk' : k = (M.dig x).length := by omega
      have hend : M.trimL zs = M.dig (x * y) := by
        refine M.mul_end hlim ?_
        rw [hval, List.take_of_length_le (by omega), M.val_dig]
      have HE := Lib.hid hend
      have HLN := Lib.hid hlen
      have HOWN := Lib.hid hown
      have HBW := Lib.hid hbW
      have HS := HS2.out
      have hB := HBB.out.trans (hbW.mono HBB.out.size)
      have HB2 := Lib.hid hB
      clear hB hend hlen hlim hz hval hown hbW hrow hk'
      go_wp2_with fail
      go_ret
      exact ⟨w.heap.size + 2, zs, by rw [HLN.out]; rfl, HOWN.out.rowAt, HE.out, HB2.out⟩

set_option maxRecDepth 100000 in
set_option maxHeartbeats 1000000 in
theorem rMul_any (a b : Option Addr) (ca cb x y : Nat) (w : World) (hx200 : (M.dig x).length ≤ 200) (hy200 : (M.dig y).length ≤ 200) (hA : Row w a (M.dig x) ca) (hB : Row w b (M.dig y) cb) :
    Calls Tryz.prog 106 #[.agg #[.slice a (M.dig x).length ca], .agg #[.slice b (M.dig y).length cb]] w fun e W' => NatRes (x * y) e W' ∧ Below w.heap.size w W' := by
  have Hvx := Lib.hid (vld_dig hx200)
  have Hvy := Lib.hid (vld_dig hy200)
  have hb3 := boxes_below w (.slice a (M.dig x).length ca) (.slice b (M.dig y).length cb)
  have hs3 := boxes_size w (.slice a (M.dig x).length ca) (.slice b (M.dig y).length cb)
  obtain ⟨c0, c1, c2, f2⟩ := boxes_cells w (.slice a (M.dig x).length ca) (.slice b (M.dig y).length cb)
  have HA := Lib.hid (hA.below hb3)
  have HB := Lib.hid (hB.below hb3)
  have HB3 := Lib.hid hb3
  clear hA hB hb3
  go_enter Tryz.func106, Tryz.ntmps106
  go_wp2_with fail
  generalize hw3 : (((w.alloc (.cells #[.slice a (M.dig x).length ca] 41)).alloc (.cells #[.slice b (M.dig y).length cb] 41)).alloc (.cells #[.slice none 0 0] 41)) = w3
  obtain rfl : boxes w (.slice a (M.dig x).length ca) (.slice b (M.dig y).length cb) = w3 := hw3
  generalize boxes w (.slice a (M.dig x).length ca) (.slice b (M.dig y).length cb) = w3 at *
  (with_reducible refine (rvalid_yes a _ ca _ HA.out Hvx.out).mono ?_)
  rintro e w5 ⟨rfl, hb5⟩
  have HC := Lib.hid (And.intro c0 (And.intro c1 (And.intro c2 f2)))
  have d1 := cell_below hb5 c1
  have HB5 := Lib.hid hb5
  clear c0 c1 c2 f2 hb5
  go_wp2_with fail
  (with_reducible refine (rvalid_yes b _ cb _ (HB.out.below HB5.out) Hvy.out).mono ?_)
  rintro e w6 ⟨rfl, hb6⟩
  have hb36 := HB5.out.trans (hb6.mono HB5.out.size)
  have c0 := cell_below hb36 HC.out.1
  have c1 := cell_below hb36 HC.out.2.1
  have HB6 := Lib.hid hb36
  clear d1 hb6 hb36 HB5
  go_wp2_with fail
  (with_reducible refine (rmul_any a b ca cb x y w6 hx200 hy200 (HA.out.below HB6.out) (HB.out.below HB6.out)).mono ?_)
  rintro e w7 ⟨g, zs, rfl, hrz, hend, hb7⟩
  have HF := Lib.hid (rfit_trim g 0 zs zs.length (x * y) w7 hrz hend)
  have hb37 := HB6.out.trans (hb7.mono HB6.out.size)
  have HB7 := Lib.hid hb37
  clear hrz hend hb7 hb37 c0 c1
  go_wp2_with fail
  (with_reducible refine HF.out.mono ?_)
  rintro e w8 ⟨hres, hb8⟩
  have hb38 := HB7.out.trans (hb8.mono HB7.out.size)
  have d2 := cell_below hb38 HC.out.2.2.1
  have g2 := frozen_below hb38 HC.out.2.2.1 HC.out.2.2.2
  have HB8 := Lib.hid (HB3.out.trans (hb38.mono (by omega)))
  have hlt2 : w.heap.size + 1 + 1 < w7.heap.size := by have := HB7.out.size; omega
  clear hb8 hb38
  by_cases h200 : (M.dig (x * y)).length ≤ 200
  · obtain ⟨v, rfl, a7, p7, rfl, hr7, hf7⟩ := hres.ok h200
    have HR7 := Lib.hid hr7
    have HF7 := Lib.hid hf7
    clear hr7 hres hf7
    go_wp2_with fail
    refine bodyPost_ret (v := .tuple #[.agg #[.slice a7 (M.dig (x * y)).length p7], .int .i64 0]) (by simp [results, Tryz.results106, go_sem, d2]) rfl ⟨natRes_ok h200 ⟨a7, p7, rfl, ?_⟩, ?_⟩
    · exact HR7.out.setFresh HF7.out (p := ⟨w.heap.size + 1 + 1, 0, none⟩) hlt2 _
    · exact HB8.out.setCell (p := ⟨w.heap.size + 1 + 1, 0, none⟩) (by simp; omega) _
  · obtain rfl := hres.limit h200
    clear hres
    go_wp2_with fail
    refine bodyPost_ret (v := .tuple #[.agg #[.slice none 0 0], .int .i64 3]) (by simp [results, Tryz.results106, go_sem, d2]) rfl ⟨natRes_limit h200, ?_⟩
    exact HB8.out.setCell (p := ⟨w.heap.size + 1 + 1, 0, none⟩) (by simp; omega) _

/-- **ref01.Mul** of two numbers. -/
theorem rmul_num {u v : Value} {x y : Nat} {w : World} (hx : (M.dig x).length ≤ 200) (hy : (M.dig y).length ≤ 200) (hu : Num w u x) (hv : Num w v y) :
    Calls Tryz.prog 106 #[u, v] w fun e W' => NatRes (x * y) e W' ∧ Below w.heap.size w W' := by
  obtain ⟨a, ca, rfl, ha⟩ := hu
  obtain ⟨b, cb, rfl, hb⟩ := hv
  exact rMul_any a b ca cb x y w hx hy ha hb
end Go.Proofs.YtmejneobfkbgeaaGreatDoor

namespace Go.Proofs.YtmejneobfkbgeaaGreatDoor
open Go Go.RowKit Go.Shelf

theorem dig_len_div (x y : Nat) : (M.dig (x / y)).length ≤ (M.dig x).length := M.dig_len_le.2 (Nat.lt_of_le_of_lt (Nat.div_le_self x y) (M.dig_len_le.1 (Nat.le_refl _)))
theorem dig_len_mod (x y : Nat) : (M.dig (x % y)).length ≤ (M.dig x).length := M.dig_len_le.2 (Nat.lt_of_le_of_lt (Nat.mod_le x y) (M.dig_len_le.1 (Nat.le_refl _)))
theorem dig_len_divmul (x y : Nat) : (M.dig (x / y * y)).length ≤ (M.dig x).length := M.dig_len_le.2 (Nat.lt_of_le_of_lt (Nat.div_mul_le_self x y) (M.dig_len_le.1 (Nat.le_refl _)))

def DivRes (x y : Nat) (e : Ending) (W : World) : Prop :=
  ∃ a1 c1 a2 c2, e = .returned (.tuple #[.agg #[.slice a1 (M.dig (x / y)).length c1], .agg #[.slice a2 (M.dig (x % y)).length c2], .int .i64 0]) ∧ Row W a1 (M.dig (x / y)) c1 ∧ Row W a2 (M.dig (x % y)) c2

/-- Four boxes: two parameters, two results. -/
theorem boxes4 (w : World) (u v : Value) : ∃ w4 : World, w4 = (boxes w u v).alloc (.cells #[.slice none 0 0] 41) ∧ w4.heap.size = w.heap.size + 4 ∧ Below w.heap.size w w4 ∧
    w4.cell? ⟨w.heap.size, 0, none⟩ = some u ∧ w4.cell? ⟨w.heap.size + 1, 0, none⟩ = some v ∧ w4.cell? ⟨w.heap.size + 1 + 1, 0, none⟩ = some (.slice none 0 0) ∧ w4.frozen? ⟨w.heap.size + 1 + 1, 0, none⟩ = false ∧
    w4.cell? ⟨w.heap.size + 1 + 1 + 1, 0, none⟩ = some (.slice none 0 0) ∧ w4.frozen? ⟨w.heap.size + 1 + 1 + 1, 0, none⟩ = false := by
  obtain ⟨h0, h1, h2, h3⟩ := boxes_cells w u v
  have hs := boxes_size w u v
  have h4 := cell_new (boxes w u v) (.slice none 0 0) 41
  have h5 := frozen_new (boxes w u v) (.slice none 0 0) 41
  rw [hs] at h4 h5
  exact ⟨_, rfl, by rw [World.size_alloc, hs], (boxes_below w u v).alloc (by rw [hs]; omega) _, cell_later _ h0, cell_later _ h1, cell_later _ h2, frozen_later _ h2 h3, h4, h5⟩

set_option maxRecDepth 100000 in
set_option maxHeartbeats 1000000 in
theorem divide_any (a b : Option Addr) (ca cb x y : Nat) (w : World) (hy : 0 < y) (hx200 : (M.dig x).length ≤ 200) (hy200 : (M.dig y).length ≤ 200) (hA : Row w a (M.dig x) ca) (hB : Row w b (M.dig y) cb) :
    Calls Tryz.prog 91 #[.agg #[.slice a (M.dig x).length ca], .agg #[.slice b (M.dig y).length cb]] w fun e W' => DivRes x y e W' ∧ Below w.heap.size w W' := by
  have hyl : ¬ (M.dig y).length = 0 := by intro h; have := M.dig_nil.1 (List.length_eq_zero_iff.1 h); omega
  have Hvx := Lib.hid (vld_dig hx200)
  have Hvy := Lib.hid (vld_dig hy200)
  have HA := Lib.hid hA
  have HB := Lib.hid hB
  clear hA hB
  go_enter Tryz.func91, Tryz.ntmps91
  go_wp2_with fail
  obtain ⟨w4, hw4, hs4, hb4, c0, c1, c2, f2, c3, f3⟩ := boxes4 w (.slice a (M.dig x).length ca) (.slice b (M.dig y).length cb)
  rw [show ((((w.alloc (.cells #[.slice a (M.dig x).length ca] 41)).alloc (.cells #[.slice b (M.dig y).length cb] 41)).alloc (.cells #[.slice none 0 0] 41)).alloc (.cells #[.slice none 0 0] 41)) = w4 from hw4.symm]
  have HB4 := Lib.hid hb4
  clear hw4 hb4
  refine (valid_yes a _ ca _ (HA.out.below HB4.out) Hvx.out).mono ?_
  rintro e w5 ⟨rfl, hb5⟩
  have d0 := cell_below hb5 c0
  have d1 := cell_below hb5 c1
  have d2 := cell_below hb5 c2
  have g2 := frozen_below hb5 c2 f2
  have d3 := cell_below hb5 c3
  have g3 := frozen_below hb5 c3 f3
  have HB5 := Lib.hid (HB4.out.trans (hb5.mono HB4.out.size))
  have hs5 := hb5.size
  clear c0 c1 c2 f2 c3 f3 hb5
  go_wp2_with fail
  refine (valid_yes b _ cb _ (HB.out.below HB5.out) Hvy.out).mono ?_
  rintro e w6 ⟨rfl, hb6⟩
  have c0 := cell_below hb6 d0
  have c1 := cell_below hb6 d1
  have c2 := cell_below hb6 d2
  have f2 := frozen_below hb6 d2 g2
  have c3 := cell_below hb6 d3
  have f3 := frozen_below hb6 d3 g3
  have HB6 := Lib.hid (HB5.out.trans (hb6.mono HB5.out.size))
  have hs6 := hb6.size
  clear d0 d1 d2 g2 d3 g3 hb6
  have hyn : (((M.dig y).length : Int) == 0) = false := beq_eq_false_iff_ne.2 (by omega)
  go_wp2_with fail
  refine (divideLimbs_any a b ca cb x y w6 hy hx200 hy200 (HA.out.below HB6.out) (HB.out.below HB6.out)).mono ?_
  rintro e w7 ⟨a1, p1, a2, p2, rfl, hr1, hr2, hf1, hf2, hb7⟩
  have HF1 := Lib.hid hf1
  have HF2 := Lib.hid hf2
  have d2 := cell_below hb7 c2
  have g2 := frozen_below hb7 c2 f2
  have d3 := cell_below hb7 c3
  have g3 := frozen_below hb7 c3 f3
  have HB7 := Lib.hid (HB6.out.trans (hb7.mono HB6.out.size))
  have hs7 := hb7.size
  have HR1 := Lib.hid hr1
  have HR2 := Lib.hid hr2
  clear c0 c1 c2 f2 c3 f3 hb7 hr1 hr2 hf1 hf2
  go_wp2_with fail
  refine bodyPost_ret (v := .tuple #[.agg #[.slice a1 (M.dig (x / y)).length p1], .agg #[.slice a2 (M.dig (x % y)).length p2], .int .i64 0]) (by simp [results, Tryz.results91, go_sem, d2, d3]) rfl ⟨⟨a1, p1, a2, p2, rfl, ?_, ?_⟩, ?_⟩
  · exact (HR1.out.setFresh HF1.out (p := ⟨w.heap.size + 1 + 1, 0, none⟩) (by show w.heap.size + 1 + 1 < _; omega) _).setFresh HF1.out (p := ⟨w.heap.size + 1 + 1 + 1, 0, none⟩) (by show w.heap.size + 1 + 1 + 1 < _; omega) _
  · exact (HR2.out.setFresh HF2.out (p := ⟨w.heap.size + 1 + 1, 0, none⟩) (by show w.heap.size + 1 + 1 < _; omega) _).setFresh HF2.out (p := ⟨w.heap.size + 1 + 1 + 1, 0, none⟩) (by show w.heap.size + 1 + 1 + 1 < _; omega) _
  · exact (HB7.out.setCell (p := ⟨w.heap.size + 1 + 1, 0, none⟩) (by simp; omega) _).setCell (p := ⟨w.heap.size + 1 + 1 + 1, 0, none⟩) (by simp; omega) _

set_option maxRecDepth 100000 in
set_option maxHeartbeats 1000000 in
theorem divide_zero (a b : Option Addr) (ca cb x : Nat) (w : World) (hx200 : (M.dig x).length ≤ 200) (hA : Row w a (M.dig x) ca) (hB : Row w b [] cb) :
    Calls Tryz.prog 91 #[.agg #[.slice a (M.dig x).length ca], .agg #[.slice b 0 cb]] w fun e W' => e = .returned (.tuple #[.agg #[.slice none 0 0], .agg #[.slice none 0 0], .int .i64 4]) ∧ Below w.heap.size w W' := by
  have Hvx := Lib.hid (vld_dig hx200)
  have Hvy : Hid (Vld []) := by have := vld_dig (n := 0) (by rw [M.dig_zero]; simp); rwa [M.dig_zero] at this
  have HA := Lib.hid hA
  have HB := Lib.hid hB
  clear hA hB
  go_enter Tryz.func91, Tryz.ntmps91
  go_wp2_with fail
  obtain ⟨w4, hw4, hs4, hb4, c0, c1, c2, f2, c3, f3⟩ := boxes4 w (.slice a (M.dig x).length ca) (.slice b 0 cb)
  rw [show ((((w.alloc (.cells #[.slice a (M.dig x).length ca] 41)).alloc (.cells #[.slice b 0 cb] 41)).alloc (.cells #[.slice none 0 0] 41)).alloc (.cells #[.slice none 0 0] 41)) = w4 from hw4.symm]
  have HB4 := Lib.hid hb4
  clear hw4 hb4
  refine (valid_yes a _ ca _ (HA.out.below HB4.out) Hvx.out).mono ?_
  rintro e w5 ⟨rfl, hb5⟩
  have d0 := cell_below hb5 c0
  have d1 := cell_below hb5 c1
  have d2 := cell_below hb5 c2
  have g2 := frozen_below hb5 c2 f2
  have d3 := cell_below hb5 c3
  have g3 := frozen_below hb5 c3 f3
  have HB5 := Lib.hid (HB4.out.trans (hb5.mono HB4.out.size))
  have hs5 := hb5.size
  clear c0 c1 c2 f2 c3 f3 hb5
  go_wp2_with fail
  refine (valid_yes b [] cb _ (HB.out.below HB5.out) Hvy.out).mono ?_
  rintro e w6 ⟨rfl, hb6⟩
  have c0 := cell_below hb6 d0
  have c1 := cell_below hb6 d1
  have c2 := cell_below hb6 d2
  have f2 := frozen_below hb6 d2 g2
  have c3 := cell_below hb6 d3
  have f3 := frozen_below hb6 d3 g3
  have HB6 := Lib.hid (HB5.out.trans (hb6.mono HB5.out.size))
  have hs6 := hb6.size
  clear d0 d1 d2 g2 d3 g3 hb6
  go_wp2_with fail
  refine bodyPost_ret (v := .tuple #[.agg #[.slice none 0 0], .agg #[.slice none 0 0], .int .i64 4]) (by simp [results, Tryz.results91, go_sem, c2, c3]) rfl ⟨rfl, ?_⟩
  exact (HB6.out.setCell (p := ⟨w.heap.size + 1 + 1, 0, none⟩) (by simp; omega) _).setCell (p := ⟨w.heap.size + 1 + 1 + 1, 0, none⟩) (by simp; omega) _
end Go.Proofs.YtmejneobfkbgeaaGreatDoor

namespace Go.Proofs.YtmejneobfkbgeaaGreatDoor
open Go Go.RowKit Go.Shelf

/-- **make([]int, 0, n)** -/
theorem wpList_make0 {W : World} {ops : Array Oper} {rest : List Oper} {o : Oper} {a : Act} {Q : Exit → Act → World → Prop} (hgd : o.guard = none) (l c : Operand) (hop : o.op = Op.makeSlice 24 l c)
    {B : Nat} (n : Nat) {L : Int} (hl : a.eval l = .int .i64 0) (hc : a.eval c = .int .i64 L) (hL : L = (n : Int)) (hn : n < 1000000) (hbase : B ≤ W.heap.size)
    (h : ∀ W', Own W' B (.slice (some ⟨W.heap.size, 0, none⟩) 0 n) [] → Below B W W' → wpList Tryz.prog ops Q rest (a.put o.dst (.slice (some ⟨W.heap.size, 0, none⟩) 0 n)) W') : wpList Tryz.prog ops Q (o :: rest) a W := by
  obtain ⟨i0, hi, hz0, hz1, hz2⟩ := info_parts info_int
  refine wpList_make_own W hgd l c 24 hop B 3 i0 (.int .i64 0) 1 Tryz.underlying24 hi hz0 hz1 .i64 .i64 L n hl hc hL (by rw [hz2]; omega) (by unfold maxLen; omega) hbase ?_
  intro W' hown hgrow
  exact h W' hown ((Below.refl B W).grown hgrow hbase (fun k e => by cases e))

theorem M.rtimes_step {V P q s n A : Int} (h : V + P * q = A * n) : (V + P * ((s * n + q) % 16777216)) + P * 16777216 * ((s * n + q) / 16777216) = (A + P * s) * n := by
  have h1 := M.pow_split P (s * n + q)
  rw [Int.mul_add] at h1
  rw [Int.add_mul, Int.mul_assoc P s n]
  omega

def TmRel (w w2 : World) (x n : Nat) (l c i : Value) (W : World) : Prop :=
  ∃ (k : Nat) (zs : List Int) (q : Int) (a : Option Addr) (cap : Nat), l = .slice a zs.length cap ∧ c = .int .i64 q ∧ i = .int .i64 (k : Int) ∧ k ≤ (M.dig x).length ∧ zs.length = k ∧ M.Lim zs ∧ 0 ≤ q ∧ q < 16777216 ∧
    M.val zs + 16777216 ^ k * q = M.val ((M.dig x).take k) * n ∧ Own W (w.heap.size + 2) (.slice a zs.length cap) zs ∧ Below w2.heap.size w2 W

set_option maxRecDepth 100000 in
set_option maxHeartbeats 2000000 in
/-- **ref01.times** -/
theorem rtimes_any (a : Option Addr) (ca x n : Nat) (w : World) (hx : (M.dig x).length ≤ 300) (hn : n < 16777216) (hA : Row w a (M.dig x) ca) :
    Calls Tryz.prog 112 #[.agg #[.slice a (M.dig x).length ca], .int .i64 (n : Int)] w fun e W' => (∃ g cap, e = .returned (.agg #[.slice (some ⟨g, 0, none⟩) (M.dig (x * n)).length cap]) ∧ Row W' (some ⟨g, 0, none⟩) (M.dig (x * n)) cap) ∧ Below w.heap.size w W' := by
  have hb := ((Below.refl _ w).alloc (Nat.le_refl _) (.cells #[.slice a (M.dig x).length ca] 41)).alloc (by simp) (.cells #[.slice none 0 0] 41)
  have HA := Lib.hid (hA.below hb)
  have HBB := Lib.hid hb
  have hra := hA.room
  have hma := hA.most
  have c0 := cell_later (.cells #[.slice none 0 0] 41) (cell_new w (.slice a (M.dig x).length ca) 41)
  have c1 := cell_new (w.alloc (.cells #[.slice a (M.dig x).length ca] 41)) (.slice none 0 0) 41
  have f1 := frozen_new (w.alloc (.cells #[.slice a (M.dig x).length ca] 41)) (.slice none 0 0) 41
  simp only [World.size_alloc] at c1 f1
  have hs2 : ((w.alloc (.cells #[.slice a (M.dig x).length ca] 41)).alloc (.cells #[.slice none 0 0] 41)).heap.size = w.heap.size + 2 := by simp
  have HC := Lib.hid (And.intro c0 (And.intro c1 f1))
  clear hA hb c0 c1 f1
  go_enter Tryz.func112, Tryz.ntmps112
  go_wp2_with (at_make; refine wpList_make0 rfl _ _ rfl ((M.dig x).length + 1) rfl rfl (by omega) (by omega) (B := w.heap.size + 2) (by rw [hs2]; exact Nat.le_refl _) ?_; intro w6 hown6 hb6)
  generalize ((w.alloc (.cells #[.slice a (M.dig x).length ca] 41)).alloc (.cells #[.slice none 0 0] 41)) = w2 at *
  have HS2 := Lib.hid hs2
  rw [hs2] at hown6
  rw [← hs2] at hb6
  clear hs2
  go_loopw [5, 6, 7] (fun l c i wr => TmRel w w2 x n l c i wr) (fun _ _ i _ => (M.dig x).length - (intOf i).toNat)
  case atStart => exact ⟨0, [], 0, _, _, rfl, rfl, rfl, Nat.zero_le _, rfl, M.Lim.nil, by omega, by omega, by simp [M.val], hown6, hb6⟩
  case round =>
    clear hown6 hb6
    obtain ⟨k, zs, q, al, cl, rfl, rfl, rfl, hk, hlen, hlim, hq0, hq1, hval, hown, hbW⟩ := hrel
    have c0 := cell_below hbW HC.out.1
    have c1 := cell_below hbW HC.out.2.1
    have f1 := frozen_below hbW HC.out.2.1 HC.out.2.2
    have HRA := Lib.hid (HA.out.below hbW)
    have HBW := Lib.hid hbW
    have HVAL := Lib.hid hval
    have HLN := Lib.hid hlen
    have HLIM := Lib.hid hlim
    have HOWN := Lib.hid hown
    have hsW : w.heap.size + 2 ≤ wr.heap.size := by have h1 := hbW.size; have h2 := HS2.out; omega
    clear hval hlen hlim hown hbW
    by_cases hlt : k < (M.dig x).length
    · have hax := (M.lim_dig x).get k
      obtain ⟨ex, hex⟩ : ∃ ex, M.el (M.dig x) k = ex := ⟨_, rfl⟩
      obtain ⟨b1, o1, rfl, hca0⟩ := HRA.out.el k hlt
      rw [hex] at hax hca0
      have hmb := M.mul_bound hax (b := (n : Int)) (by omega)
      have HEX := Lib.hid hex
      have hln : zs.length < 1000 := by rw [HLN.out]; omega
      clear hex c1 f1
      go_wp2_with (at_builtin; refine wpList_app1 rfl _ _ rfl rfl (HOWN.out.alloc _) rfl (cell_new _ _ _) (by omega) (by simp; omega) ?_; intro a' cap' W' hown' hb')
      go_roundw
      case rel =>
        refine ⟨k + 1, zs ++ [(ex * n + q) % 16777216], (ex * n + q) / 16777216, a', cap', by rw [List.length_append]; rfl, rfl, by go_num, by omega, by rw [List.length_append, HLN.out]; rfl, HLIM.out.append (M.Lim.cons (by omega) (by omega) M.Lim.nil), by omega, by omega, ?_, hown', ?_⟩
        · rw [M.val_append, HLN.out, M.val_take_succ', Int.pow_succ, HEX.out]
          simp only [M.val, Int.mul_zero, Int.add_zero]
          exact M.rtimes_step HVAL.out
        · have := HBW.out.alloc HBW.out.size (.cells #[.int .i64 ((ex * n + q) % 16777216)] 3)
          exact this.trans (hb'.mono (by rw [HS2.out]; exact Nat.le_refl _))
      case measure => simp [intOf]; omega
    · have hk' : k = (M.dig x).length := by omega
      have hv := HVAL.out
      rw [List.take_of_length_le (by omega), M.val_dig] at hv
      have hln : zs.length < 1000 := by rw [HLN.out]; omega
      have hlim2 : M.Lim (zs ++ [q]) := HLIM.out.append (M.Lim.cons hq0 hq1 M.Lim.nil)
      have hval2 : M.val (zs ++ [q]) = ((x * n : Nat) : Int) := by
        rw [M.val_append, HLN.out, Int.natCast_mul, ← hv]; simp [M.val]
      have htr : M.trimL (zs ++ [q]) = M.dig (x * n) := trim_dig hlim2 hval2
      have HTR := Lib.hid htr
      have hl2 : (zs ++ [q]).length = zs.length + 1 := by simp
      have HL2 := Lib.hid hl2
      have HK := Lib.hid hk'
      clear htr hlim2 hval2 hv hl2 hk'
      go_wp2_with (at_builtin; refine wpList_app1 rfl _ _ rfl rfl (HOWN.out.alloc _) rfl (cell_new _ _ _) (by omega) (by simp; omega) ?_; intro a' cap' W' hown' hb'; have d1 := (hb'.cell (p := ⟨w.heap.size + 1, 0, none⟩) (by show w.heap.size + 1 < _; omega)).trans (cell_later (.cells #[.int .i64 q] 3) c1); have g1 := (hb'.frozen (p := ⟨w.heap.size + 1, 0, none⟩) (by show w.heap.size + 1 < _; omega)).trans (frozen_later (.cells #[.int .i64 q] 3) c1 f1))
      obtain ⟨g, rfl, hgB, hgW, _, _, _, _⟩ := hown'.at2 0 (by simp)
      have hroom := hown'.rowAt.room
      have hmost := hown'.rowAt.most
      have HROW := Lib.hid hown'.rowAt
      have HOW := Lib.hid hown'
      have hB := (HBB.out.trans (HBW.out.mono HBB.out.size)).alloc (by omega) (.cells #[.int .i64 q] 3)
      have HB2 := Lib.hid (hB.trans (hb'.mono (by omega)))
      rw [HL2.out] at hroom
      obtain ⟨ys, hys⟩ : ∃ ys, zs ++ [q] = ys := ⟨_, rfl⟩
      rw [hys] at HROW HOW HTR HL2
      clear hown' hb' hB c0 c1 f1 HOWN HBW HRA HLIM HVAL hys
      obtain ⟨m, hm⟩ : ∃ m, zs.length + 1 = m := ⟨_, rfl⟩
      rw [hm] at HL2 hroom
      have HM := Lib.hid hm
      rw [hm]
      clear hm
      go_loop [9] (fun i => FitRel ys i) (fun i => (intOf i).toNat)
      case atStart => exact ⟨m, by first | rfl | (rw [← HM.out]; rfl), by rw [HL2.out]; exact Nat.le_refl _, fun j hj => M.el_ge (by rw [HL2.out]; exact hj)⟩
      case round =>
        obtain ⟨k2, rfl, hk2, hz⟩ := hrel
        have HZ := Lib.hid hz
        rw [HL2.out] at hk2
        clear hz
        by_cases hgo : 0 < k2 ∧ M.el ys (k2 - 1) = 0
        · obtain ⟨h0, he⟩ := hgo
          have hc := HROW.out.cell (k2 - 1) (by rw [HL2.out]; omega)
          rw [he, Nat.zero_add] at hc
          have e1 : ((k2 : Int) - 1).toNat = k2 - 1 := by omega
          have HE := Lib.hid he
          have ecast : (k2 : Int) - 1 = ((k2 - 1 : Nat) : Int) := by omega
          have HEC := Lib.hid ecast
          clear he ecast
          go_wp2_with fail
          go_round
          case rel => exact ⟨k2 - 1, by rw [HEC.out], by rw [HL2.out]; omega, fun j hj => by
            rcases Nat.lt_or_ge j k2 with h | h
            · rw [show j = k2 - 1 by omega]; exact HE.out
            · exact HZ.out j h⟩
          case measure => simp [intOf]; omega
        · have hst : (M.trimL ys).length = k2 := trimL_stop (by rw [HL2.out]; exact hk2) HZ.out (by
            rcases Nat.eq_zero_or_pos k2 with h | h
            · exact .inl h
            · exact .inr (fun e => hgo ⟨h, e⟩))
          have htk : ys.take k2 = M.dig (x * n) := by rw [← HTR.out, ← hst, M.trimL_take]
          have hdl : (M.dig (x * n)).length = k2 := by rw [← HTR.out]; exact hst
          have hfin : ∀ (P : Prop), (0 < k2 → (decide (M.el ys (k2 - 1) = 0) = false) → P) → (k2 = 0 → P) → P := fun P h1 h2 => by
            rcases Nat.eq_zero_or_pos k2 with h | h
            · exact h2 h
            · exact h1 h (decide_eq_false fun e => hgo ⟨h, e⟩)
          have hrt := HROW.out.take k2
          rw [htk] at hrt
          have HRT := Lib.hid hrt
          have hfr : Fresh (w.heap.size + 2) (some ⟨g, 0, none⟩) (M.dig (x * n)) := fun b off e _ => by cases e; exact hgB
          have HFR := Lib.hid hfr
          have hcell := HB2.out.size
          have d2 := d1
          clear hst htk hgo hrt hfr
          subst hdl
          refine hfin _ ?_ ?_
          · intro h0 hne
            have hc := HROW.out.cell ((M.dig (x * n)).length - 1) (by rw [HL2.out]; omega)
            rw [Nat.zero_add] at hc
            have e1 : (((M.dig (x * n)).length : Int) - 1).toNat = (M.dig (x * n)).length - 1 := by omega
            have hne2 : (M.el ys ((M.dig (x * n)).length - 1) == 0) = false := by rw [beq_eq_false_iff_ne]; exact of_decide_eq_false hne
            obtain ⟨z, hz⟩ : ∃ z, M.el ys ((M.dig (x * n)).length - 1) = z := ⟨_, rfl⟩
            rw [hz] at hc hne2
            clear hne hfin hz
            go_wp2_with fail
            refine bodyPost_ret (v := .agg #[.slice (some ⟨g, 0, none⟩) (M.dig (x * n)).length cap']) (by simp [results, Tryz.results112, go_sem, d2]) rfl ⟨⟨g, cap', rfl, ?_⟩, ?_⟩
            · exact HRT.out.setFresh HFR.out (p := ⟨w.heap.size + 1, 0, none⟩) (by show w.heap.size + 1 < _; omega) _
            · exact HB2.out.setCell (p := ⟨w.heap.size + 1, 0, none⟩) (by simp) _
          · intro h0
            have hd0 : ((M.dig (x * n)).length : Int) = 0 := by rw [h0]; rfl
            have HD := Lib.hid h0
            rw [hd0]
            clear hfin h0 hd0 hk2 HZ
            go_wp2_with fail
            refine bodyPost_ret (v := .agg #[.slice (some ⟨g, 0, none⟩) 0 cap']) (by simp [results, Tryz.results112, go_sem, d2]) rfl ⟨⟨g, cap', by rw [HD.out], ?_⟩, ?_⟩
            · exact HRT.out.setFresh HFR.out (p := ⟨w.heap.size + 1, 0, none⟩) (by show w.heap.size + 1 < _; omega) _
            · exact HB2.out.setCell (p := ⟨w.heap.size + 1, 0, none⟩) (by simp) _
end Go.Proofs.YtmejneobfkbgeaaGreatDoor

namespace Go.Proofs.YtmejneobfkbgeaaGreatDoor
open Go Go.RowKit Go.Shelf

theorem Own.nilCap {W : World} {B n cap : Nat} {a : Option Addr} {zs : List Int} (h : Own W B (.slice a n cap) zs) : a = none → cap = 0 := by
  intro e
  rcases h.parts with ⟨e2, _⟩ | ⟨g, c, e2, _⟩
  · cases e2; rfl
  · cases e2; cases e

theorem wp_appRow {W : World} {o : Oper} {a : Act} {K : Act → World → Prop} {Q : Exit → Act → World → Prop} (s x : Operand) (ho : o.op = .call { callee := .builtin .append, args := #[s, x], argTypes := #[24, 24] })
    {B : Nat} {v : Value} {zs ys : List Int} (hs : a.eval s = v) (hown : Own W B v zs) {ad : Option Addr} {cap : Nat} (hx : a.eval x = .slice ad ys.length cap) (hr : Row W ad ys cap) (hnil : ad = none → cap = 0)
    (hl : zs.length + ys.length < 1000000) (hbase : B ≤ W.heap.size)
    (h : ∀ a' cap' W', Own W' B (.slice a' (zs ++ ys).length cap') (zs ++ ys) → Below B W W' → K (a.put o.dst (.slice a' (zs.length + ys.length) cap')) W') : Oper.wp Tryz.prog o a W K Q := by
  obtain ⟨i0, hi, hz0, hz1, hz2⟩ := info_parts info_int
  cases ad with
  | none =>
    have hy : ys = [] := by
      cases ys with
      | nil => rfl
      | cons y ys =>
        obtain ⟨b, off, e, _⟩ := hr.el 0 (by simp)
        cases e
    subst hy
    obtain rfl := hnil rfl
    have hrun := run_append_owned_none (P := Tryz.prog) W B 24 o.type 3 i0 1 Tryz.underlying24 hi v zs.length (zs.map (Value.int .i64)) hown
    obtain ⟨a', cap', rfl, _⟩ := hown.row
    unfold Oper.wp execOp
    simp only [ho, resolve, invoke, builtin, Sem.run_bind, Sem.run_pure, Result.andThen_ok, List.map_toArray, List.map_cons, List.map_nil, hs, hx, List.length_nil, hrun]
    have := h a' cap' W (by simpa using hown) (Below.refl _ _)
    exact (show K (a.put o.dst (.slice a' zs.length cap')) W by simpa using this)
  | some ad =>
    refine wp_append_own W s x 24 ho B 3 i0 (.int .i64 0) 1 8 Tryz.underlying24 hi hz0 hz1 hz2 rfl (by decide) v zs.length (zs.map (Value.int .i64)) hs hown ad ys.length cap (ys.map (Value.int .i64)) hx (by simp) ?_ ?_ (by unfold maxLen; omega) (by omega) hbase ?_
    · intro j u hj
      rw [List.getElem?_map] at hj
      by_cases hlt : j < ys.length
      · obtain ⟨b, off, e, hc⟩ := hr.el j hlt
        cases e
        rw [List.getElem?_eq_getElem hlt] at hj
        simp only [Option.map_some, Option.some.injEq] at hj
        subst hj
        rw [M.el, List.getElem?_eq_getElem hlt] at hc
        by_cases hj0 : j = 0
        · subst hj0; simpa [Addr.add] using hc
        · simpa [Addr.add, hj0] using hc
      · rw [List.getElem?_eq_none (by omega)] at hj; simp at hj
    · intro u hu
      obtain ⟨z, _, rfl⟩ := List.mem_map.1 hu
      rfl
    · intro v' W' hown' hgrow _
      have ho2 : Own W' B v' (zs ++ ys) := by unfold Own; rw [List.length_append, List.map_append]; exact hown'
      have hB2 : Below B W W' := (Below.refl B W).grown hgrow hbase (fun k e => (World.ownsRow.lt hown k e).1)
      obtain ⟨a', cap', rfl, _⟩ := ho2.row
      have := h a' cap' W' ho2 hB2
      simpa using this

/-- **append(s, t...)**, s owned, t any slice, nil too. -/
theorem wpList_appRow {W : World} {ops : Array Oper} {rest : List Oper} {o : Oper} {a : Act} {Q : Exit → Act → World → Prop} (hgd : o.guard = none) (s x : Operand)
    (ho : o.op = .call { callee := .builtin .append, args := #[s, x], argTypes := #[24, 24] }) {B : Nat} {v : Value} {zs ys : List Int} (hs : a.eval s = v) (hown : Own W B v zs)
    {ad : Option Addr} {cap : Nat} (hx : a.eval x = .slice ad ys.length cap) (hr : Row W ad ys cap) (hnil : ad = none → cap = 0) (hl : zs.length + ys.length < 1000000) (hbase : B ≤ W.heap.size)
    (h : ∀ a' cap' W', Own W' B (.slice a' (zs ++ ys).length cap') (zs ++ ys) → Below B W W' → wpList Tryz.prog ops Q rest (a.put o.dst (.slice a' (zs.length + ys.length) cap')) W') : wpList Tryz.prog ops Q (o :: rest) a W :=
  wpList_plain hgd fun _ hK => wp_appRow s x ho hs hown hx hr hnil hl hbase fun a' c' W' h1 h2 => hK _ _ (h a' c' W' h1 h2)

/-- .. as a step of a region that draws its order. -/
theorem step_appRow {W : World} {ops : Array Oper} {o : Oper} {a : Act} {K : Act → World → Prop} {Q : Exit → Act → World → Prop} {E : Prop} (hgd : o.guard = none) (s x : Operand)
    (ho : o.op = .call { callee := .builtin .append, args := #[s, x], argTypes := #[24, 24] }) {B : Nat} {v : Value} {zs ys : List Int} (hs : a.eval s = v) (hown : Own W B v zs)
    {ad : Option Addr} {cap : Nat} (hx : a.eval x = .slice ad ys.length cap) (hr : Row W ad ys cap) (hnil : ad = none → cap = 0) (hl : zs.length + ys.length < 1000000) (hbase : B ≤ W.heap.size)
    (h : ∀ a' cap' W', Own W' B (.slice a' (zs ++ ys).length cap') (zs ++ ys) → Below B W W' → K (a.put o.dst (.slice a' (zs.length + ys.length) cap')) W') :
    if Region.wanted o (yielded ops a.tmps) = true then Oper.wp Tryz.prog o a W K Q else E := by
  have hw : Region.wanted o (yielded ops a.tmps) = true := by simp [Region.wanted, hgd]
  rw [if_pos hw]
  exact wp_appRow s x ho hs hown hx hr hnil hl hbase h
end Go.Proofs.YtmejneobfkbgeaaGreatDoor

namespace Go.Proofs.YtmejneobfkbgeaaGreatDoor
open Go Go.RowKit Go.Shelf

theorem M.less_step {V P c A B ex ey d c2 : Int} (h : V - P * c = A - B) (hd : d - 16777216 * c2 = ex - c - ey) : (V + P * d) - P * 16777216 * c2 = (A + P * ex) - (B + P * ey) := by
  have h1 : P * (d - 16777216 * c2) = P * (ex - c - ey) := by rw [hd]
  rw [Int.mul_sub, Int.mul_sub, Int.mul_sub, ← Int.mul_assoc] at h1
  omega

/-- In the last place nothing is borrowed. -/
theorem M.less_last {zs : List Int} {x y k m : Nat} {c d : Int} (hm : (dig x).length = m) (hk : k + 1 = m) (hyx : y ≤ x) (hlim : Lim (zs.take k)) (hl : zs.length = m)
    (hv : val (zs.take k) - 16777216 ^ k * c = val ((dig x).take k) - val ((dig y).take k)) (hd : d = el (dig x) k - c - el (dig y) k) : 0 ≤ d := by
  have h1 := val_take_succ' (dig x) k
  have h2 := val_take_succ' (dig y) k
  have hyl : (dig y).length ≤ m := by rw [← hm]; exact dig_len_le.2 (Nat.lt_of_le_of_lt hyx (dig_len_le.1 (Nat.le_refl _)))
  rw [List.take_of_length_le (by omega), val_dig] at h1
  rw [List.take_of_length_le (by omega), val_dig] at h2
  have h3 := val_lt hlim
  rw [List.length_take, Nat.min_eq_left (by omega)] at h3
  have hP := pow_pos k
  rcases Int.lt_or_le d 0 with hneg | hpos
  · exfalso
    have h4 : 16777216 ^ k * d ≤ 16777216 ^ k * (-1) := Int.mul_le_mul_of_nonneg_left (by omega) (by omega)
    rw [hd, Int.mul_sub, Int.mul_sub] at h4
    omega
  · exact hpos

theorem Own.setL {W : World} {B g L cap : Nat} {zs : List Int} (h : Own W B (.slice (some ⟨g, 0, none⟩) L cap) zs) (j : Nat) (u : Int) : Own (W.setCell ⟨g, j, none⟩ (.int .i64 u)) B (.slice (some ⟨g, 0, none⟩) L cap) (zs.set j u) := by
  have hl := h.len
  subst hl
  exact h.set j u

def LsRel (w w3 : World) (x y g cap : Nat) (i : Value) (W : World) : Prop :=
  ∃ (k : Nat) (zs : List Int) (c : Int), i = .int .i64 (k : Int) ∧ k ≤ (M.dig x).length ∧ zs.length = (M.dig x).length ∧ M.Lim (zs.take k) ∧ 0 ≤ c ∧ c ≤ 1 ∧ (k < (M.dig x).length → M.el zs k = M.el (M.dig x) k - c) ∧ (∀ j : Nat, k < j → M.el zs j = M.el (M.dig x) j) ∧
    (k = (M.dig x).length → c = 0) ∧ M.val (zs.take k) - 16777216 ^ k * c = M.val ((M.dig x).take k) - M.val ((M.dig y).take k) ∧ Own W (w.heap.size + 3) (.slice (some ⟨g, 0, none⟩) (M.dig x).length cap) zs ∧ Below w3.heap.size w3 W

theorem ls_pos {w w3 W : World} {x y g cap k : Nat} {zs : List Int} {c d : Int} (hk : k < (M.dig x).length) (hlen : zs.length = (M.dig x).length) (hlim : M.Lim (zs.take k)) (hrest : ∀ j : Nat, k < j → M.el zs j = M.el (M.dig x) j)
    (hval : M.val (zs.take k) - 16777216 ^ k * c = M.val ((M.dig x).take k) - M.val ((M.dig y).take k)) (hd : d = M.el (M.dig x) k - c - M.el (M.dig y) k) (h0 : 0 ≤ d) (h1 : d < 16777216)
    (hown : Own W (w.heap.size + 3) (.slice (some ⟨g, 0, none⟩) (M.dig x).length cap) zs) (hB : Below w3.heap.size w3 W) (hg : w3.heap.size ≤ g) :
    LsRel w w3 x y g cap (.int .i64 ((k : Int) + 1)) (W.setCell ⟨g, k, none⟩ (.int .i64 d)) := by
  have hkl : k < zs.length := by omega
  have ht := M.take_set_succ zs k d hkl
  refine ⟨k + 1, zs.set k d, 0, by go_num, by omega, by rw [List.length_set]; exact hlen, ?_, by omega, by omega, fun _ => ?_, fun j hj => ?_, fun _ => rfl, ?_, hown.setL k d, hB.setCell (p := ⟨g, k, none⟩) hg _⟩
  · rw [ht]; exact hlim.append (M.Lim.cons h0 h1 M.Lim.nil)
  · rw [M.el_set _ _ _ _ hkl, if_neg (by omega), hrest _ (by omega)]; omega
  · rw [M.el_set _ _ _ _ hkl, if_neg (by omega)]; exact hrest j (by omega)
  · have hl : (zs.take k).length = k := by rw [List.length_take]; omega
    rw [ht, M.val_append, hl, M.val_take_succ', M.val_take_succ']
    simp only [M.val, Int.mul_zero, Int.add_zero, Int.sub_zero]
    have := M.less_step (d := d) (c2 := 0) (ex := M.el (M.dig x) k) (ey := M.el (M.dig y) k) hval (by omega)
    rwa [Int.mul_zero, Int.sub_zero] at this

theorem ls_neg {w w3 W : World} {x y g cap k : Nat} {zs : List Int} {c d : Int} (hk : k + 1 < (M.dig x).length) (hlen : zs.length = (M.dig x).length) (hlim : M.Lim (zs.take k)) (hrest : ∀ j : Nat, k < j → M.el zs j = M.el (M.dig x) j)
    (hval : M.val (zs.take k) - 16777216 ^ k * c = M.val ((M.dig x).take k) - M.val ((M.dig y).take k)) (hd : d = M.el (M.dig x) k - c - M.el (M.dig y) k) (h0 : d < 0) (h1 : -16777216 ≤ d)
    (hown : Own W (w.heap.size + 3) (.slice (some ⟨g, 0, none⟩) (M.dig x).length cap) zs) (hB : Below w3.heap.size w3 W) (hg : w3.heap.size ≤ g) :
    LsRel w w3 x y g cap (.int .i64 ((k : Int) + 1)) (((W.setCell ⟨g, k, none⟩ (.int .i64 d)).setCell ⟨g, k, none⟩ (.int .i64 (d + 16777216))).setCell ⟨g, k + 1, none⟩ (.int .i64 (M.el (M.dig x) (k + 1) - 1))) := by
  have hkl : k < zs.length := by omega
  have ho := ((hown.setL k d).setL k (d + 16777216)).setL (k + 1) (M.el (M.dig x) (k + 1) - 1)
  rw [List.set_set] at ho
  have ht : ((zs.set k (d + 16777216)).set (k + 1) (M.el (M.dig x) (k + 1) - 1)).take (k + 1) = zs.take k ++ [d + 16777216] := by
    rw [List.take_set_of_le (Nat.le_refl _)]; exact M.take_set_succ zs k _ hkl
  have hk1 : k + 1 < (zs.set k (d + 16777216)).length := by rw [List.length_set]; omega
  refine ⟨k + 1, _, 1, by go_num, by omega, by rw [List.length_set, List.length_set]; exact hlen, ?_, by omega, by omega, fun _ => ?_, fun j hj => ?_, fun h => by omega, ?_, ho, ((hB.setCell (p := ⟨g, k, none⟩) hg _).setCell (p := ⟨g, k, none⟩) hg _).setCell (p := ⟨g, k + 1, none⟩) hg _⟩
  · rw [ht]; exact hlim.append (M.Lim.cons (by omega) (by omega) M.Lim.nil)
  · rw [M.el_set _ _ _ _ hk1, if_pos rfl]
  · rw [M.el_set _ _ _ _ hk1, if_neg (by omega), M.el_set _ _ _ _ hkl, if_neg (by omega)]; exact hrest j (by omega)
  · have hl : (zs.take k).length = k := by rw [List.length_take]; omega
    rw [ht, M.val_append, hl, M.val_take_succ', M.val_take_succ']
    simp only [M.val, Int.mul_zero, Int.add_zero]
    have := M.less_step (d := d + 16777216) (c2 := 1) (ex := M.el (M.dig x) k) (ey := M.el (M.dig y) k) hval (by omega)
    rw [Int.mul_one] at this
    rw [Int.pow_succ, Int.mul_one]
    exact this

def LessPost (w : World) (n : Nat) (e : Ending) (W : World) : Prop :=
  (∃ a c, e = .returned (.agg #[.slice a (M.dig n).length c]) ∧ Row W a (M.dig n) c ∧ (a = none → c = 0) ∧ Fresh (w.heap.size + 1) a (M.dig n)) ∧ Below w.heap.size w W

set_option maxRecDepth 100000 in
set_option maxHeartbeats 2000000 in
/-- **ref01.less** -/
theorem rless_any (a b : Option Addr) (ca cb x y : Nat) (w : World) (hx : (M.dig x).length ≤ 300) (hyx : y ≤ x) (hA : Row w a (M.dig x) ca) (hn : a = none → ca = 0) (hB : Row w b (M.dig y) cb) :
    Calls Tryz.prog 113 #[.agg #[.slice a (M.dig x).length ca], .agg #[.slice b (M.dig y).length cb]] w (LessPost w (x - y)) := by
  have hb3 := boxes_below w (.slice a (M.dig x).length ca) (.slice b (M.dig y).length cb)
  have hs3 := boxes_size w (.slice a (M.dig x).length ca) (.slice b (M.dig y).length cb)
  obtain ⟨c0, c1, c2, f2⟩ := boxes_cells w (.slice a (M.dig x).length ca) (.slice b (M.dig y).length cb)
  have HA := Lib.hid (hA.below hb3)
  have HB := Lib.hid (hB.below hb3)
  have HB3 := Lib.hid hb3
  have HC := Lib.hid (And.intro c1 (And.intro c2 f2))
  have HN := Lib.hid hn
  clear hA hB hb3 c1 c2 f2 hn
  go_enter Tryz.func113, Tryz.ntmps113
  go_wp2_with (at_builtin; refine wpList_appRow rfl _ _ rfl rfl (Own.nil _ (w.heap.size + 3)) rfl HA.out HN.out (by simp; omega) (by simp) ?_; intro a' cap' W' hown' hb'; have HO := Lib.hid hown'; have HBW := Lib.hid hb'; clear hown' hb' c0)
  generalize hw3 : (((w.alloc (.cells #[.slice a (M.dig x).length ca] 41)).alloc (.cells #[.slice b (M.dig y).length cb] 41)).alloc (.cells #[.slice none 0 0] 41)) = w3 at HBW
  obtain rfl : boxes w (.slice a (M.dig x).length ca) (.slice b (M.dig y).length cb) = w3 := hw3
  generalize boxes w (.slice a (M.dig x).length ca) (.slice b (M.dig y).length cb) = w3 at *
  rcases Nat.eq_zero_or_pos (M.dig x).length with h0 | h0
  · have hxz : x - y = 0 := by
      have h1 := (M.dig_len_le (n := x) (k := 0)).1 (by omega)
      omega
    have HXZ := Lib.hid (show M.dig (x - y) = [] by rw [hxz]; exact M.dig_zero)
    have h := HO.out
    have hdx : M.dig x = [] := List.eq_nil_of_length_eq_zero h0
    rw [hdx] at h
    have hnc := h.nilCap
    have HNC := Lib.hid hnc
    have HRO := Lib.hid (show Row W' a' [] cap' from h.rowAt)
    have hbw := HBW.out
    rw [← hs3] at hbw
    have HBB := Lib.hid (HB3.out.trans (hbw.mono HB3.out.size))
    have c2 := cell_below hbw HC.out.2.1
    have f2 := frozen_below hbw HC.out.2.1 HC.out.2.2
    rw [h0] at *
    clear h hdx hnc hxz
    go_loop [6] (fun i => i = .int .i64 0) (fun i => 0)
    case atStart => rfl
    case round =>
      subst hrel
      go_wp2_with fail
      go_loop [7] (fun i => i = .int .i64 0) (fun i => 0)
      case atStart => rfl
      case round =>
        subst hrel
        go_wp2_with fail
        refine bodyPost_ret (v := .agg #[.slice a' 0 cap']) (by simp [results, Tryz.results113, go_sem, c2]) rfl ⟨⟨a', cap', by rw [HXZ.out]; rfl, ?_, HNC.out, ?_⟩, ?_⟩
        · rw [HXZ.out]
          refine HRO.out.setFresh (B := w.heap.size + 3) (fun b off _ hl => absurd hl (by simp)) (p := ⟨w.heap.size + 1 + 1, 0, none⟩) (by show w.heap.size + 1 + 1 < _; omega) _
        · rw [HXZ.out]; exact fun b off _ hl => absurd hl (by simp)
        · exact HBB.out.setCell (p := ⟨w.heap.size + 1 + 1, 0, none⟩) (by show _ ≤ w.heap.size + 1 + 1; omega) _
  · obtain ⟨g, rfl, hgB, hgW, hroom, hmost, _, _⟩ := HO.out.at2 0 (by simpa using h0)
    have hO := HO.out
    simp only [List.nil_append] at hO hroom
    have HO2 := Lib.hid hO
    have HS3 := Lib.hid hs3
    clear HO hO hgW
    go_loopw [6] (fun i wr => LsRel w w3 x y g cap' i wr) (fun i _ => (M.dig x).length - (intOf i).toNat)
    case atStart => exact ⟨0, M.dig x, 0, rfl, Nat.zero_le _, rfl, by simpa using M.Lim.nil, by omega, by omega, fun _ => by omega, fun _ _ => rfl, fun h => rfl, by simp [M.val], HO2.out, by rw [HS3.out]; exact HBW.out⟩
    case round =>
      clear HO2 HBW
      obtain ⟨k, zs, c, rfl, hk, hlen, hlim, hc0, hc1, hel, hrest, hlast, hval, hown, hbW⟩ := hrel
      have c1 := cell_below hbW HC.out.1
      have c2 := cell_below hbW HC.out.2.1
      have f2 := frozen_below hbW HC.out.2.1 HC.out.2.2
      have HBW := Lib.hid hbW
      have HLN := Lib.hid hlen
      have HLIM := Lib.hid hlim
      have HVAL := Lib.hid hval
      have HEL := Lib.hid hel
      have HREST := Lib.hid hrest
      have HLAST := Lib.hid hlast
      have HOWN := Lib.hid hown
      have HLB := Lib.hid (rlimb_any b (M.dig y) cb k wr.drew ((HB.out.below hbW).drewN 1))
      have hsW : w.heap.size + 3 ≤ wr.heap.size := by have h1 := hbW.size; have h2 := HS3.out; omega
      clear hlen hlim hval hel hrest hlast hown hbW hs3
      by_cases hlt : k < (M.dig x).length
      · obtain ⟨_, e', _, _, _, _, hcz, hfz⟩ := HOWN.out.at2 k (by rw [HLN.out]; exact hlt)
        cases e'
        have hex := (M.lim_dig x).get k
        have hey := (M.lim_dig y).get k
        rw [HEL.out hlt] at hcz
        obtain ⟨ex, hex'⟩ : ∃ ex, M.el (M.dig x) k = ex := ⟨_, rfl⟩
        obtain ⟨ey, hey'⟩ : ∃ ey, M.el (M.dig y) k = ey := ⟨_, rfl⟩
        rw [hex'] at hex hcz
        rw [hey'] at hey HLB
        obtain ⟨e, he⟩ : ∃ e, ex - c = e := ⟨_, rfl⟩
        rw [he] at hcz
        obtain ⟨d, hd⟩ : ∃ d, e - ey = d := ⟨_, rfl⟩
        have hwd : IntKind.i64.wrap (e - ey) = d := by rw [hd, IntKind.wrap_i64]; omega
        have hd0 : -16777216 ≤ d := by omega
        have hd1 : d < 16777216 := by omega
        have hdd : d = ex - c - ey := by omega
        have HDD := Lib.hid hdd
        have HEX := Lib.hid hex'
        have HEY := Lib.hid hey'
        have hgw : g < wr.heap.size := lt_of_cell hcz
        have hki : (k : Int) < ((M.dig x).length : Int) := by omega
        have hk0 : (0 : Int) ≤ (k : Int) := by omega
        clear hex' hey' he hd hdd
        have hbd : Below wr.heap.size wr wr.drew := belowN (Below.refl _ _) 1
        by_cases hneg : d < 0
        · have hk1 : k + 1 < (M.dig x).length := by
            rcases Nat.lt_or_ge (k + 1) (M.dig x).length with h | h
            · exact h
            · have := M.less_last (c := c) (d := d) rfl (by omega : k + 1 = (M.dig x).length) hyx HLIM.out HLN.out HVAL.out (by rw [HDD.out, HEX.out, HEY.out])
              omega
          have hex1 := (M.lim_dig x).get (k + 1)
          obtain ⟨_, e', _, _, _, _, hcz1, hfz1⟩ := HOWN.out.at2 (k + 1) (by rw [HLN.out]; exact hk1)
          cases e'
          rw [HREST.out (k + 1) (by omega)] at hcz1
          obtain ⟨x1, hx1⟩ : ∃ x1, M.el (M.dig x) (k + 1) = x1 := ⟨_, rfl⟩
          rw [hx1] at hcz1 hex1
          have HX1 := Lib.hid hx1
          have hdn : decide (d < 0) = true := decide_eq_true hneg
          clear hx1
          go_wp2_with fail
          go_region_with ((go_at_call 115; (with_reducible refine HLB.out.mono ?_); rintro e9 wq ⟨rfl, hbq⟩; have hczq := cell_below hbq hcz; have hfzq := frozen_below hbq hcz hfz; have hczq1 := cell_below hbq hcz1; have hfzq1 := frozen_below hbq hcz1 hfz1))
          all_goals
            have hbwq := hbd.trans (hbq.mono (Nat.le_refl _))
            have HOQ := Lib.hid (HOWN.out.below hbwq)
            have HBQ := Lib.hid (HBW.out.trans (hbwq.mono (by have := HBW.out.size; omega)))
            clear hwd hbd hbq hbwq c1 c2 f2 hcz hfz hcz1 hfz1
            have HGG := Lib.hid (show w3.heap.size ≤ g by rw [HS3.out]; exact hgB)
            go_wp2_with fail
            go_roundw
            case rel => rw [← HX1.out]; exact ls_neg hk1 HLN.out HLIM.out HREST.out HVAL.out (by rw [HEX.out, HEY.out]; exact HDD.out) hneg hd0 HOQ.out HBQ.out HGG.out
            case measure => simp [intOf]; omega
        · have hpos : 0 ≤ d := by omega
          have hdn : decide (d < 0) = false := decide_eq_false hneg
          go_wp2_with fail
          go_region_with ((go_at_call 115; (with_reducible refine HLB.out.mono ?_); rintro e9 wq ⟨rfl, hbq⟩; have hczq := cell_below hbq hcz; have hfzq := frozen_below hbq hcz hfz))
          all_goals
            have hbwq := hbd.trans (hbq.mono (Nat.le_refl _))
            have HOQ := Lib.hid (HOWN.out.below hbwq)
            have HBQ := Lib.hid (HBW.out.trans (hbwq.mono (by have := HBW.out.size; omega)))
            clear hwd hbd hbq hbwq c1 c2 f2 hcz hfz
            have HGG := Lib.hid (show w3.heap.size ≤ g by rw [HS3.out]; exact hgB)
            go_wp2_with fail
            go_roundw
            case rel => exact ls_pos hlt HLN.out HLIM.out HREST.out HVAL.out (by rw [HEX.out, HEY.out]; exact HDD.out) hpos hd1 HOQ.out HBQ.out HGG.out
            case measure => simp [intOf]; omega
      · have hk' : k = (M.dig x).length := by omega
        have hv := HVAL.out
        have hcz := HLAST.out hk'
        have hlim2 := HLIM.out
        have hll := HLN.out
        rw [hcz, List.take_of_length_le (by omega), List.take_of_length_le (by omega), List.take_of_length_le (by rw [hk']; exact M.dig_len_le.2 (Nat.lt_of_le_of_lt hyx (M.dig_len_le.1 (Nat.le_refl _)))), M.val_dig, M.val_dig, Int.mul_zero, Int.sub_zero] at hv
        rw [List.take_of_length_le (by omega)] at hlim2
        have htr : M.trimL zs = M.dig (x - y) := trim_dig hlim2 (by rw [hv]; omega)
        have HTR := Lib.hid htr
        have HROW := Lib.hid (show Row wr (some ⟨g, 0, none⟩) zs cap' from by have h := HOWN.out; rw [← hll] at h; exact h.rowAt)
        have HB2 := Lib.hid (HB3.out.trans (HBW.out.mono HB3.out.size))
        have hm999 : (M.dig x).length ≤ 300 := hx
        clear htr hlim2 hv hcz hll c1 HOWN HBW HVAL HEL HREST HLAST HLIM HLB HA HB HC hk hc0 hc1
        obtain ⟨m, hm⟩ : ∃ m, (M.dig x).length = m := ⟨_, rfl⟩
        have HM := Lib.hid hm
        rw [hm] at HLN hroom hk' hlt hm999
        rw [hm]
        clear hm hx h0
        go_wp2_with fail
        go_loop [7] (fun i => FitRel zs i) (fun i => (intOf i).toNat)
        case atStart => exact ⟨m, rfl, by rw [HLN.out]; exact Nat.le_refl _, fun j hj => M.el_ge (by rw [HLN.out]; exact hj)⟩
        case round =>
          obtain ⟨k2, rfl, hk2, hz⟩ := hrel
          have HZ := Lib.hid hz
          rw [HLN.out] at hk2
          clear hz
          by_cases hgo : 0 < k2 ∧ M.el zs (k2 - 1) = 0
          · obtain ⟨h0, he⟩ := hgo
            have hc := HROW.out.cell (k2 - 1) (by rw [HLN.out]; omega)
            rw [he, Nat.zero_add] at hc
            have e1 : ((k2 : Int) - 1).toNat = k2 - 1 := by omega
            have HE := Lib.hid he
            have ecast : (k2 : Int) - 1 = ((k2 - 1 : Nat) : Int) := by omega
            have HEC := Lib.hid ecast
            clear he ecast
            go_wp2_with fail
            go_round
            case rel => exact ⟨k2 - 1, by rw [HEC.out], by rw [HLN.out]; omega, fun j hj => by
              rcases Nat.lt_or_ge j k2 with h | h
              · rw [show j = k2 - 1 by omega]; exact HE.out
              · exact HZ.out j h⟩
            case measure => simp [intOf]; omega
          · have hst : (M.trimL zs).length = k2 := trimL_stop (by rw [HLN.out]; exact hk2) HZ.out (by
              rcases Nat.eq_zero_or_pos k2 with h | h
              · exact .inl h
              · exact .inr (fun e => hgo ⟨h, e⟩))
            have htk : zs.take k2 = M.dig (x - y) := by rw [← HTR.out, ← hst, M.trimL_take]
            have hdl : (M.dig (x - y)).length = k2 := by rw [← HTR.out]; exact hst
            have hfin : ∀ (P : Prop), (0 < k2 → (decide (M.el zs (k2 - 1) = 0) = false) → P) → (k2 = 0 → P) → P := fun P h1 h2 => by
              rcases Nat.eq_zero_or_pos k2 with h | h
              · exact h2 h
              · exact h1 h (decide_eq_false fun e => hgo ⟨h, e⟩)
            have hrt := HROW.out.take k2
            rw [htk] at hrt
            have HRT := Lib.hid hrt
            have hfr : Fresh (w.heap.size + 3) (some ⟨g, 0, none⟩) (M.dig (x - y)) := fun b off e _ => by cases e; exact hgB
            have HFR := Lib.hid hfr
            have hcell := HB2.out.size
            have d2 := c2
            clear hst htk hgo hrt hfr
            subst hdl
            refine hfin _ ?_ ?_
            · intro h0 hne
              have hc := HROW.out.cell ((M.dig (x - y)).length - 1) (by rw [HLN.out]; omega)
              rw [Nat.zero_add] at hc
              have e1 : (((M.dig (x - y)).length : Int) - 1).toNat = (M.dig (x - y)).length - 1 := by omega
              have hne2 : (M.el zs ((M.dig (x - y)).length - 1) == 0) = false := by rw [beq_eq_false_iff_ne]; exact of_decide_eq_false hne
              obtain ⟨z, hz⟩ : ∃ z, M.el zs ((M.dig (x - y)).length - 1) = z := ⟨_, rfl⟩
              rw [hz] at hc hne2
              clear hne hfin hz
              go_wp2_with fail
              refine bodyPost_ret (v := .agg #[.slice (some ⟨g, 0, none⟩) (M.dig (x - y)).length cap']) (by simp [results, Tryz.results113, go_sem, d2]) rfl ⟨⟨_, cap', rfl, ?_, (fun h => by cases h), ?_⟩, ?_⟩
              · exact HRT.out.setFresh HFR.out (p := ⟨w.heap.size + 1 + 1, 0, none⟩) (by show w.heap.size + 1 + 1 < _; omega) _
              · exact fun b off e hl => Nat.le_trans (by omega) (HFR.out b off e hl)
              · exact HB2.out.setCell (p := ⟨w.heap.size + 1 + 1, 0, none⟩) (by show _ ≤ w.heap.size + 1 + 1; omega) _
            · intro h0
              have hd0 : ((M.dig (x - y)).length : Int) = 0 := by rw [h0]; rfl
              have HD := Lib.hid h0
              rw [hd0]
              clear hfin h0 hd0 hk2 HZ
              go_wp2_with fail
              refine bodyPost_ret (v := .agg #[.slice (some ⟨g, 0, none⟩) 0 cap']) (by simp [results, Tryz.results113, go_sem, d2]) rfl ⟨⟨_, cap', by rw [HD.out], ?_, (fun h => by cases h), ?_⟩, ?_⟩
              · exact HRT.out.setFresh HFR.out (p := ⟨w.heap.size + 1 + 1, 0, none⟩) (by show w.heap.size + 1 + 1 < _; omega) _
              · exact fun b off e hl => Nat.le_trans (by omega) (HFR.out b off e hl)
              · exact HB2.out.setCell (p := ⟨w.heap.size + 1 + 1, 0, none⟩) (by show _ ≤ w.heap.size + 1 + 1; omega) _
end Go.Proofs.YtmejneobfkbgeaaGreatDoor

namespace Go.Proofs.YtmejneobfkbgeaaGreatDoor.M

/-- The number that the limbs from k on make. -/
def xs (x k : Nat) : Nat := (val ((dig x).drop k)).toNat
theorem xs_int (x k : Nat) : ((xs x k : Nat) : Int) = val ((dig x).drop k) := Int.toNat_of_nonneg (val_nonneg ((lim_dig x).drop k))
theorem xs_zero (x : Nat) : xs x 0 = x := by
  have := xs_int x 0
  rw [List.drop_zero, val_dig] at this
  omega
theorem xs_end {x k : Nat} (h : (dig x).length ≤ k) : xs x k = 0 := by
  have := xs_int x k
  rw [List.drop_of_length_le h] at this
  simp only [val] at this
  omega
theorem xs_step {x k : Nat} (h : k < (dig x).length) : xs x k = 16777216 * xs x (k + 1) + (el (dig x) k).toNat := by
  have h1 := xs_int x k
  have h2 := xs_int x (k + 1)
  have h3 := (lim_dig x).get k
  rw [val_drop_succ _ _ h, ← h2] at h1
  omega
theorem div_step {X X' y d : Nat} (hy : 0 < y) (hd : d < 16777216) (hX : X = 16777216 * X' + d) :
    X / y = 16777216 * (X' / y) + (d + 16777216 * (X' % y)) / y ∧ X % y = (d + 16777216 * (X' % y)) % y ∧ (d + 16777216 * (X' % y)) / y < 16777216 := by
  have h1 := Nat.div_add_mod X' y
  have h2 := Nat.mod_lt X' hy
  have h3 : X = y * (16777216 * (X' / y)) + (d + 16777216 * (X' % y)) := by
    rw [Nat.mul_left_comm]
    omega
  refine ⟨?_, ?_, ?_⟩
  · rw [h3, Nat.mul_add_div hy]
  · rw [h3, Nat.mul_add_mod]
  · rw [Nat.div_lt_iff_lt_mul hy]; omega
theorem q_step {zs : List Int} {k : Nat} (u : Int) (hk : k < zs.length) : val ((zs.set k u).drop k) = u + 16777216 * val (zs.drop (k + 1)) := by
  rw [val_drop_succ _ k (by rw [List.length_set]; exact hk), el_set _ _ _ _ hk, if_pos rfl, List.drop_set_of_lt (by omega)]
theorem rest_dig {d : Int} {r : Nat} (h0 : 0 ≤ d) (h1 : d < 16777216) : trimL ([d] ++ dig r) = dig (d.toNat + 16777216 * r) := by
  refine trim_dig (Lim.cons h0 h1 (lim_dig r)) ?_
  simp only [List.singleton_append, val, val_dig]
  omega
/-- A number below y times 16777216 has at most one limb more than y. -/
theorem rest_len {d : Int} {r y k : Nat} (h1 : d < 16777216) (hr : r < y) (hy : (dig y).length ≤ k) : (dig (d.toNat + 16777216 * r)).length ≤ k + 1 := by
  rw [dig_len_le] at *
  rw [Nat.pow_succ]
  omega
end Go.Proofs.YtmejneobfkbgeaaGreatDoor.M

namespace Go.Proofs.YtmejneobfkbgeaaGreatDoor
open Go Go.RowKit Go.Shelf

/-- Quotient and rest, in blocks from B on. -/
def RDivRes (B x y : Nat) (e : Ending) (W : World) : Prop :=
  ∃ a1 c1 a2 c2, e = .returned (.tuple #[.agg #[.slice a1 (M.dig (x / y)).length c1], .agg #[.slice a2 (M.dig (x % y)).length c2], .int .i64 0]) ∧ Row W a1 (M.dig (x / y)) c1 ∧ Row W a2 (M.dig (x % y)) c2 ∧ Fresh B a1 (M.dig (x / y)) ∧ Fresh B a2 (M.dig (x % y))

/-- What holds at the head of Divide's loop: the quotient's limbs from k on, and the rest. -/
structure RdSt (wb : World) (x y p8 g k : Nat) (zs : List Int) (ra : Option Addr) (rc : Nat) (W : World) : Prop where
  few : k ≤ (M.dig x).length
  len : zs.length = (M.dig x).length
  lim : M.Lim zs
  quo : M.val (zs.drop k) = ((M.xs x k / y : Nat) : Int)
  own : Own W wb.heap.size (.slice (some ⟨g, 0, none⟩) (M.dig x).length (M.dig x).length) zs
  cell : W.cell? ⟨p8, 0, none⟩ = some (.slice ra (M.dig (M.xs x k % y)).length rc)
  free : W.frozen? ⟨p8, 0, none⟩ = false
  row : Row W ra (M.dig (M.xs x k % y)) rc
  fresh : Fresh (p8 + 1) ra (M.dig (M.xs x k % y))
  nilc : ra = none → rc = 0
  below : Below wb.heap.size wb W
  bnd : wb.heap.size ≤ g ∧ g < p8

def RdRel (wb : World) (x y p8 g : Nat) (i : Value) (W : World) : Prop :=
  ∃ (k : Nat) (zs : List Int) (ra : Option Addr) (rc : Nat), i = .int .i64 ((k : Int) - 1) ∧ RdSt wb x y p8 g k zs ra rc W

theorem Row.storedAt {w : World} {a : Option Addr} {zs : List Int} {cap : Nat} (h : Row w a zs cap) {p : Addr} {s : Option Addr} {n c : Nat} (hp : w.cell? p = some (.slice s n c)) (u : Value) : Row (w.setCell p u) a zs cap :=
  ⟨h.room, h.most, fun j hj => by
    obtain ⟨b, off, e, hc⟩ := h.el j hj
    exact ⟨b, off, e, (World.cell?_setCell_other _ _ _ _ (by rintro rfl; rw [hp] at hc; cases hc)).trans hc⟩⟩
theorem rowAt_len {W : World} {B n cap : Nat} {a : Option Addr} {zs : List Int} (h : Own W B (.slice a n cap) zs) (hl : zs.length = n) : Row W a zs cap := by
  subst hl; exact h.rowAt
theorem Own.one {W : World} {B : Nat} (d : Int) (hB : B ≤ W.heap.size) : Own (W.alloc (.cells #[.int .i64 d] 3)) B (.slice (some ⟨W.heap.size, 0, none⟩) 1 1) [d] := by
  have := World.ownsRow_lit (base := B) (e := 3) (size := 1) W #[.int .i64 d] 1 hB (by decide) rfl
  unfold Own
  simpa using this

set_option maxRecDepth 100000 in
set_option maxHeartbeats 2000000 in
/-- **ref01.Divide** by a number that is not 0. -/
theorem rdiv_pos (a b : Option Addr) (ca cb x y : Nat) (w : World) (hy : 0 < y) (hx200 : (M.dig x).length ≤ 200) (hy200 : (M.dig y).length ≤ 200) (hA : Row w a (M.dig x) ca) (hB : Row w b (M.dig y) cb) :
    Calls Tryz.prog 62 #[.agg #[.slice a (M.dig x).length ca], .agg #[.slice b (M.dig y).length cb]] w fun e W' => RDivRes w.heap.size x y e W' ∧ Below w.heap.size w W' := by
  have hyl : ¬ (M.dig y).length = 0 := by intro h; have := M.dig_nil.1 (List.length_eq_zero_iff.1 h); omega
  have Hvx := Lib.hid (vld_dig hx200)
  have Hvy := Lib.hid (vld_dig hy200)
  have HA := Lib.hid hA
  have HB := Lib.hid hB
  clear hA hB
  go_enter Tryz.func62, Tryz.ntmps62
  go_wp2_with fail
  obtain ⟨w4, hw4, hs4, hb4, c0, c1, c2, f2, c3, f3⟩ := boxes4 w (.slice a (M.dig x).length ca) (.slice b (M.dig y).length cb)
  rw [show ((((w.alloc (.cells #[.slice a (M.dig x).length ca] 41)).alloc (.cells #[.slice b (M.dig y).length cb] 41)).alloc (.cells #[.slice none 0 0] 41)).alloc (.cells #[.slice none 0 0] 41)) = w4 from hw4.symm]
  have HB4 := Lib.hid hb4
  clear hw4 hb4
  refine (rvalid_yes a _ ca _ (HA.out.below HB4.out) Hvx.out).mono ?_
  rintro e w5 ⟨rfl, hb5⟩
  have d0 := cell_below hb5 c0
  have d1 := cell_below hb5 c1
  have d2 := cell_below hb5 c2
  have g2 := frozen_below hb5 c2 f2
  have d3 := cell_below hb5 c3
  have g3 := frozen_below hb5 c3 f3
  have HB5 := Lib.hid (HB4.out.trans (hb5.mono HB4.out.size))
  have hs5 := hb5.size
  clear c0 c1 c2 f2 c3 f3 hb5
  go_wp2_with fail
  refine (rvalid_yes b _ cb _ (HB.out.below HB5.out) Hvy.out).mono ?_
  rintro e w6 ⟨rfl, hb6⟩
  have c0 := cell_below hb6 d0
  have c1 := cell_below hb6 d1
  have c2 := cell_below hb6 d2
  have f2 := frozen_below hb6 d2 g2
  have c3 := cell_below hb6 d3
  have f3 := frozen_below hb6 d3 g3
  have HB6 := Lib.hid (HB5.out.trans (hb6.mono HB5.out.size))
  have hs6 := hb6.size
  clear d0 d1 d2 g2 d3 g3 hb6
  have hyn : (((M.dig y).length : Int) == 0) = false := beq_eq_false_iff_ne.2 (by omega)
  have HC := Lib.hid (And.intro c0 (And.intro c1 (And.intro c2 (And.intro f2 (And.intro c3 f3)))))
  have HA6 := Lib.hid (HA.out.below HB6.out)
  have HBR6 := Lib.hid (HB.out.below HB6.out)
  go_wp2_with (at_make; refine wpList_make1 rfl _ _ rfl (M.dig x).length rfl rfl (by omega) (by omega) (B := w6.heap.size) (Nat.le_refl _) ?_; intro w7 hown7 hb7; have e0 := cell_later (.cells #[.slice none 0 0] 41) (cell_below hb7 c0))
  rw [List.length_replicate] at hown7
  have hs7 : w6.heap.size < w7.heap.size := (World.ownsRow.lt hown7 w6.heap.size rfl).2
  have HS7 := Lib.hid hs7
  have h0 : RdSt w6 x y w7.heap.size w6.heap.size (M.dig x).length (List.replicate (M.dig x).length 0) none 0 (w7.alloc (.cells #[.slice none 0 0] 41)) := by
    have e0 : M.xs x (M.dig x).length = 0 := M.xs_end (Nat.le_refl _)
    refine ⟨Nat.le_refl _, List.length_replicate .., M.Lim.replicate _, ?_, hown7.alloc _, ?_, frozen_new _ _ _, ?_, ?_, fun _ => rfl, hb7.alloc (Nat.le_of_lt hs7) _, Nat.le_refl _, hs7⟩
    · rw [e0, Nat.zero_div, List.drop_of_length_le (by rw [List.length_replicate]; exact Nat.le_refl _)]; rfl
    · rw [e0, Nat.zero_mod, M.dig_zero]; exact cell_new _ _ _
    · rw [e0, Nat.zero_mod, M.dig_zero]; exact (Own.nil _ 0).rowAt
    · intro b off e _; cases e
  have H0 := Lib.hid h0
  clear h0 hown7 hb7
  go_loopw [9] (fun i wr => RdRel w6 x y w7.heap.size w6.heap.size i wr) (fun i _ => (intOf i + 1).toNat)
  case atStart => exact ⟨_, _, _, _, rfl, H0.out⟩
  case round =>
    clear H0 e0 c0 c1 c2 f2 c3 f3
    obtain ⟨k, zs, ra, rc, rfl, hst⟩ := hrel
    have HST := Lib.hid hst
    clear hst
    rcases Nat.eq_zero_or_pos k with hk0 | hk0
    · subst hk0
      have hc := HST.out.cell
      have hrw := HST.out.row
      have hqu := HST.out.quo
      have hln := HST.out.len
      have hro : Row wr (some ⟨w6.heap.size, 0, none⟩) zs (M.dig x).length := rowAt_len HST.out.own hln
      rw [M.xs_zero] at hc hrw hqu
      rw [List.drop_zero] at hqu
      have hfit := rfit_trim w6.heap.size 0 zs (M.dig x).length (x / y) wr hro (trim_dig HST.out.lim hqu)
      rw [hln] at hfit
      have HFIT := Lib.hid hfit
      have hbw := HST.out.below
      have c2 := cell_below hbw HC.out.2.2.1
      have f2 := frozen_below hbw HC.out.2.2.1 HC.out.2.2.2.1
      have c3 := cell_below hbw HC.out.2.2.2.2.1
      have f3 := frozen_below hbw HC.out.2.2.2.2.1 HC.out.2.2.2.2.2
      have HRW := Lib.hid hrw
      have hwr : w.heap.size + 4 ≤ wr.heap.size := by have := hbw.size; omega
      clear hro hqu hln hfit hrw hbw
      rw [show (((0 : Nat) : Int) - 1) = -1 by omega]
      go_wp2_with fail
      refine HFIT.out.mono ?_
      rintro e w8 ⟨hres, hb8⟩
      obtain ⟨v, rfl, a1, c1, rfl, hr1, hf1⟩ := hres.ok (Nat.le_trans (dig_len_div x y) hx200)
      have d2 := cell_later (.cells #[.slice a1 (M.dig (x / y)).length c1] 41) (cell_below hb8 c2)
      have g2 := frozen_later (.cells #[.slice a1 (M.dig (x / y)).length c1] 41) (cell_below hb8 c2) (frozen_below hb8 c2 f2)
      have d3 := cell_later (.cells #[.slice a1 (M.dig (x / y)).length c1] 41) (cell_below hb8 c3)
      have g3 := frozen_later (.cells #[.slice a1 (M.dig (x / y)).length c1] 41) (cell_below hb8 c3) (frozen_below hb8 c3 f3)
      have d8 := cell_later (.cells #[.slice a1 (M.dig (x / y)).length c1] 41) (cell_below hb8 hc)
      have d9 := cell_new w8 (.slice a1 (M.dig (x / y)).length c1) 41
      have HR1 := Lib.hid (hr1.alloc (.cells #[.slice a1 (M.dig (x / y)).length c1] 41))
      have HF1 := Lib.hid hf1
      have HR2 := Lib.hid ((HRW.out.below hb8).alloc (.cells #[.slice a1 (M.dig (x / y)).length c1] 41))
      have HB9 := Lib.hid ((HB6.out.trans ((HST.out.below.trans (hb8.mono HST.out.below.size)).mono HB6.out.size)).alloc (by have := hb8.size; omega) (.cells #[.slice a1 (M.dig (x / y)).length c1] 41))
      have hs8 : wr.heap.size < (w8.alloc (.cells #[.slice a1 (M.dig (x / y)).length c1] 41)).heap.size := by have := hb8.size; rw [World.size_alloc]; omega
      have hrl : (M.dig (x % y)).length ≤ 200 := Nat.le_trans (dig_len_mod x y) hx200
      have hrm := HRW.out.room
      have hrm2 := HRW.out.most
      clear c2 f2 c3 f3 hc hb8 hr1 hf1 hres
      go_upto_region 26 with fail
      generalize (w8.alloc (.cells #[.slice a1 (M.dig (x / y)).length c1] 41)) = w9 at *
      have hbd : Below w9.heap.size w9 w9.drew := belowN (Below.refl _ w9) 1
      go_region_law (refine step_appRow rfl (.const (.slice none 0 0)) (.tmp 109) rfl (B := w9.heap.size) (zs := []) (ys := M.dig (x % y)) (by rfl) (Own.nil _ _) (by rfl) (HR2.out.drewN 1) HST.out.nilc (by simp; omega) (by simp) ?_; intro a' cap' W' hown' hb0; have hb' := hbd.trans hb0; have k2 := cell_below hb' d2; have l2 := frozen_below hb' d2 g2; have k3 := cell_below hb' d3; have l3 := frozen_below hb' d3 g3; have k9 := cell_below hb' d9; go_simp)
      all_goals (
        rw [List.nil_append] at hown'
        have HOW := Lib.hid hown'
        have HBW := Lib.hid hb'
        clear hown' hb' hb0 hbd d2 g2 d3 g3 d8 d9 k9
        go_wp2_with fail
        refine bodyPost_ret (v := .tuple #[.agg #[.slice a1 (M.dig (x / y)).length c1], .agg #[.slice a' (M.dig (x % y)).length cap'], .int .i64 0]) (by simp [results, Tryz.results62, go_sem, k2, k3]) rfl ⟨⟨a1, c1, a', cap', rfl, ?_, ?_, fun b off e hl => Nat.le_trans (by omega) (HF1.out b off e hl), fun b off e hl => Nat.le_trans (by omega) (HOW.out.fresh b off e hl)⟩, ?_⟩
        · exact ((HR1.out.below HBW.out).setFresh HF1.out (p := ⟨w.heap.size + 1 + 1, 0, none⟩) (by show w.heap.size + 1 + 1 < _; omega) _).setFresh HF1.out (p := ⟨w.heap.size + 1 + 1 + 1, 0, none⟩) (by show w.heap.size + 1 + 1 + 1 < _; omega) _
        · exact (HOW.out.rowAt.setFresh HOW.out.fresh (p := ⟨w.heap.size + 1 + 1, 0, none⟩) (by show w.heap.size + 1 + 1 < _; omega) _).setFresh HOW.out.fresh (p := ⟨w.heap.size + 1 + 1 + 1, 0, none⟩) (by show w.heap.size + 1 + 1 + 1 < _; omega) _
        · exact ((HB9.out.trans (HBW.out.mono HB9.out.size)).setCell (p := ⟨w.heap.size + 1 + 1, 0, none⟩) (by show _ ≤ w.heap.size + 1 + 1; omega) _).setCell (p := ⟨w.heap.size + 1 + 1 + 1, 0, none⟩) (by show _ ≤ w.heap.size + 1 + 1 + 1; omega) _)
    · obtain ⟨j, rfl⟩ : ∃ j, k = j + 1 := ⟨k - 1, by omega⟩
      rw [show (((j + 1 : Nat) : Int) - 1) = (j : Int) by omega]
      have hj : j < (M.dig x).length := HST.out.few
      obtain ⟨r, hr⟩ : ∃ r, M.xs x (j + 1) % y = r := ⟨_, rfl⟩
      have hdl := (M.lim_dig x).get j
      obtain ⟨d, hd⟩ : ∃ d, M.el (M.dig x) j = d := ⟨_, rfl⟩
      obtain ⟨b1, o1, ha1, hca⟩ := (HA6.out.below HST.out.below).el j hj
      subst ha1
      have c0 := cell_below HST.out.below HC.out.1
      have c1 := cell_below HST.out.below HC.out.2.1
      have cr := HST.out.cell
      have fr := HST.out.free
      have hrow := HST.out.row
      rw [hr] at cr hrow
      rw [hd] at hca hdl
      have hrl : (M.dig r).length ≤ 200 := Nat.le_trans (M.dig_len_le.2 (Nat.lt_trans (by rw [← hr]; exact Nat.mod_lt _ hy) (M.dig_len_le.1 (Nat.le_refl _)))) hy200
      have HR := Lib.hid hr
      have HD := Lib.hid hd
      have HRW := Lib.hid hrow
      have hrm := hrow.room
      have hrm2 := hrow.most
      have ham := HA6.out.most
      have har := HA6.out.room
      clear hr hd hrow
      have cr1 := cell_later (.cells #[.int .i64 d] 3) cr
      go_upto_region 10 with fail
      go_cut [10] (fun s10 wx => ∃ (a' : Option Addr) (cap' : Nat), s10 = .slice a' ([d] ++ M.dig r).length cap' ∧ Own wx wr.heap.size (.slice a' ([d] ++ M.dig r).length cap') ([d] ++ M.dig r) ∧ Below wr.heap.size wr wx)
      case first =>
        go_region_law (refine step_appRow rfl (.tmp 50) (.tmp 52) rfl (B := wr.heap.size) (zs := [d]) (ys := M.dig r) (by rfl) ((Own.one d (Nat.le_refl _)).drewN 1) (by rfl) ((HRW.out.alloc _).drewN 1) HST.out.nilc (by simp; omega) (by simp) ?_; intro a' cap' W' hown' hb'; go_simp)
        all_goals (
          go_wp2_with fail
          go_meet
          exact ⟨a', cap', by simp [Nat.add_comm], hown', (belowN ((Below.refl _ wr).alloc (Nat.le_refl _) (.cells #[.int .i64 d] 3)) 1).trans hb'⟩)
      case rest =>
        obtain ⟨a', cap', rfl, hown, hbc⟩ := hcut
        obtain ⟨wa, hwa⟩ : ∃ wa : World, wa = wc := ⟨_, rfl⟩
        subst hwa
        obtain ⟨R, hR⟩ : ∃ R : Nat, d.toNat + 16777216 * r = R := ⟨_, rfl⟩
        have htr : M.trimL ([d] ++ M.dig r) = M.dig R := by rw [← hR]; exact M.rest_dig hdl.1 hdl.2
        have hRlen : (M.dig R).length ≤ 201 := by rw [← hR]; exact M.rest_len hdl.2 (by rw [← HR.out]; exact Nat.mod_lt _ hy) hy200
        have HRR := Lib.hid hR
        have HTR := Lib.hid htr
        have hl0 : 0 < ([d] ++ M.dig r).length := by simp
        obtain ⟨ys, hys⟩ : ∃ ys, [d] ++ M.dig r = ys := ⟨_, rfl⟩
        have hyl2 : ys.length ≤ 201 := by rw [← hys]; simp; omega
        rw [hys] at hown HTR hl0 ⊢
        obtain ⟨gl, rfl, hgl, hglw, hroom, hmost, _, _⟩ := hown.at2 0 hl0
        have HROW := Lib.hid hown.rowAt
        have HBC := Lib.hid hbc
        have HYS := Lib.hid hys
        have k0 := cell_below hbc c0
        have k1 := cell_below hbc c1
        have kr := cell_below hbc cr
        have kf := frozen_below hbc cr fr
        clear hR htr hys hown hbc c0 c1 cr fr cr1 hca
        obtain ⟨m, hm⟩ : ∃ m, ys.length = m := ⟨_, rfl⟩
        have HM := Lib.hid hm
        rw [hm] at hroom hl0 hyl2 ⊢
        clear hm
        go_upto_block 2 with fail
        go_cut [11] (fun s11 wx => s11 = .int .i64 ((M.dig R).length : Int) ∧ wx = wa)
        case first =>
          go_wp2_with fail
          go_loop [11] (fun i => FitRel ys i) (fun i => (intOf i).toNat)
          case atStart => exact ⟨m, rfl, by rw [HM.out]; exact Nat.le_refl _, fun j hj => M.el_ge (by rw [HM.out]; exact hj)⟩
          case round =>
            obtain ⟨k2, rfl, hk2, hz⟩ := hrel
            have HZ := Lib.hid hz
            rw [HM.out] at hk2
            clear hz
            by_cases hgo : 0 < k2 ∧ M.el ys (k2 - 1) = 0
            · obtain ⟨h0, he⟩ := hgo
              have hc := HROW.out.cell (k2 - 1) (by rw [HM.out]; omega)
              rw [he, Nat.zero_add] at hc
              have e1 : ((k2 : Int) - 1).toNat = k2 - 1 := by omega
              have HE := Lib.hid he
              have ecast : (k2 : Int) - 1 = ((k2 - 1 : Nat) : Int) := by omega
              have HEC := Lib.hid ecast
              clear he ecast
              go_wp2_with fail
              go_round
              case rel => exact ⟨k2 - 1, by rw [HEC.out], by rw [HM.out]; omega, fun j hj => by
                rcases Nat.lt_or_ge j k2 with h | h
                · rw [show j = k2 - 1 by omega]; exact HE.out
                · exact HZ.out j h⟩
              case measure => simp [intOf]; omega
            · have hst : (M.trimL ys).length = k2 := trimL_stop (by rw [HM.out]; exact hk2) HZ.out (by
                rcases Nat.eq_zero_or_pos k2 with h | h
                · exact .inl h
                · exact .inr (fun e => hgo ⟨h, e⟩))
              have hdl2 : (M.dig R).length = k2 := by rw [← HTR.out]; exact hst
              have HDL := Lib.hid hdl2
              have hfin : ∀ (P : Prop), (0 < k2 → (decide (M.el ys (k2 - 1) = 0) = false) → P) → (k2 = 0 → P) → P := fun P h1 h2 => by
                rcases Nat.eq_zero_or_pos k2 with h | h
                · exact h2 h
                · exact h1 h (decide_eq_false fun e => hgo ⟨h, e⟩)
              clear hst hgo hdl2
              refine hfin _ ?_ ?_
              · intro h0 hne
                have hc := HROW.out.cell (k2 - 1) (by rw [HM.out]; omega)
                rw [Nat.zero_add] at hc
                have e1 : ((k2 : Int) - 1).toNat = k2 - 1 := by omega
                have hne2 : (M.el ys (k2 - 1) == 0) = false := by rw [beq_eq_false_iff_ne]; exact of_decide_eq_false hne
                obtain ⟨z, hz⟩ : ∃ z, M.el ys (k2 - 1) = z := ⟨_, rfl⟩
                rw [hz] at hc hne2
                clear hne hfin hz
                go_wp2_with fail
                go_meet
                exact ⟨by rw [HDL.out], rfl⟩
              · intro h0
                subst h0
                clear hfin hk2 HZ
                go_wp2_with fail
                go_meet
                exact ⟨by rw [HDL.out]; rfl, rfl⟩
        case rest =>
          obtain ⟨rfl, hwc⟩ := hcut
          subst hwc
          have hdm : (M.dig R).length ≤ m := by rw [← HTR.out, ← HM.out]; exact M.trimL_len ys
          have hp8 : w.heap.size + 1 ≠ w7.heap.size := by omega
          go_upto_region 16 with fail
          have q1 := (cell_other (W := wc) (p := ⟨w7.heap.size, 0, none⟩) (a := ⟨w.heap.size + 1, 0, none⟩) (.slice (some ⟨gl, 0, none⟩) (M.dig R).length cap') hp8).trans k1
          have q8 := World.cell?_setCell_same _ _ (.slice (some ⟨gl, 0, none⟩) (M.dig R).length cap') kr
          have qf : (wc.setCell ⟨w7.heap.size, 0, none⟩ (.slice (some ⟨gl, 0, none⟩) (M.dig R).length cap')).frozen? ⟨w7.heap.size, 0, none⟩ = false := (World.frozen?_setCell _ _ _ _).trans kf
          have HB14 := Lib.hid ((HST.out.below.trans (HBC.out.mono HST.out.below.size)).setCell (p := ⟨w7.heap.size, 0, none⟩) (Nat.le_of_lt HS7.out) (.slice (some ⟨gl, 0, none⟩) (M.dig R).length cap'))
          have HO14 := Lib.hid ((HST.out.own.below HBC.out).other (p := ⟨w7.heap.size, 0, none⟩) (.slice (some ⟨gl, 0, none⟩) (M.dig R).length cap') (by simp [Value.ownBlock]; omega))
          have HR14 := Lib.hid (show Row (wc.setCell ⟨w7.heap.size, 0, none⟩ (.slice (some ⟨gl, 0, none⟩) (M.dig R).length cap')) (some ⟨gl, 0, none⟩) (M.dig R) cap' from by
            have h := HROW.out.take (M.dig R).length
            rw [show ys.take (M.dig R).length = M.dig R from by rw [← HTR.out]; exact M.trimL_take ys] at h
            exact h.storedAt kr _)
          have HQF := Lib.hid qf
          have HP14 := Lib.hid q8
          generalize (wc.setCell ⟨w7.heap.size, 0, none⟩ (.slice (some ⟨gl, 0, none⟩) (M.dig R).length cap')) = w14 at *
          have h814 := lt_of_cell q8
          clear k0 k1 kr kf qf
          go_wp2_with fail
          refine (rcmp_any (some ⟨gl, 0, none⟩) b cap' cb R y _ HR14.out (HBR6.out.below HB14.out)).mono ?_
          rintro e w15 ⟨rfl, hb15⟩
          have p1 := cell_below hb15 q1
          have p8 := cell_below hb15 q8
          have HB15 := Lib.hid hb15
          clear q1 q8 hb15
          obtain ⟨Q, hQ⟩ : ∃ Q, R / y = Q := ⟨_, rfl⟩
          have hQ1 : Q < 16777216 := by
            have := (M.div_step (X := M.xs x j) (X' := M.xs x (j + 1)) (y := y) (d := d.toNat) hy (by omega) (by rw [M.xs_step hj, HD.out])).2.2
            rw [HR.out, HRR.out, hQ] at this
            exact this
          have HQ := Lib.hid hQ
          clear hQ
          go_upto_if 75 with fail
          go_cut [13] (fun s13 wx => ∃ h : Nat, s13 = .int .i64 (h : Int) ∧ Q ≤ h ∧ h ≤ 16777215 ∧ wx = w15)
          case first =>
            by_cases hRy : R < y
            · have hcm : Lib.compareInt (R : Int) (y : Int) < 0 := by rw [compare_lt (by omega)]; omega
              have hq0 : Q = 0 := by rw [← HQ.out]; exact Nat.div_eq_of_lt hRy
              go_wp2_with fail
              go_meet
              exact ⟨0, rfl, by omega, by omega, rfl⟩
            · have hcm : ¬ Lib.compareInt (R : Int) (y : Int) < 0 := by
                rcases Nat.lt_or_ge y R with h | h
                · rw [compare_gt (by omega)]; omega
                · rw [compare_eq (by omega)]; omega
              go_wp2_with fail
              go_meet
              exact ⟨16777215, rfl, by omega, by omega, rfl⟩
          case rest =>
            obtain ⟨hi, rfl, hhi, hhi2, hw⟩ := hcut
            subst hw
            obtain ⟨w17, hw17⟩ : ∃ w17 : World, w17 = wc := ⟨_, rfl⟩
            subst hw17
            have HPC := Lib.hid (And.intro p1 p8)
            have HR17 := Lib.hid (HR14.out.below HB15.out)
            have HY17 := Lib.hid (HBR6.out.below (HB14.out.trans (HB15.out.mono HB14.out.size)))
            have hs17 := HB15.out.size
            clear p1 p8
            go_wp2_with fail
            go_loopw [12, 13] (fun lo h wq => ∃ l u : Nat, lo = .int .i64 (l : Int) ∧ h = .int .i64 (u : Int) ∧ l ≤ Q ∧ Q ≤ u ∧ u ≤ 16777215 ∧ Below w17.heap.size w17 wq) (fun lo h _ => (intOf h - intOf lo).toNat)
            case atStart => exact ⟨0, hi, rfl, rfl, Nat.zero_le _, hhi, hhi2, Below.refl _ _⟩
            case round =>
              obtain ⟨l, u, rfl, rfl, hl, hu, hu2, hbq⟩ := hrel
              rename World => wq
              have p1 := cell_below hbq HPC.out.1
              have p8 := cell_below hbq HPC.out.2
              have hsq := hbq.size
              have HBQ := Lib.hid hbq
              clear hbq
              by_cases hlu : l < u
              · obtain ⟨mid, hmid⟩ : ∃ mid : Nat, ((l : Int) + (u : Int) + 1) / 2 = (mid : Int) := ⟨(l + u + 1) / 2, by omega⟩
                have hm1 : l < mid := by omega
                have hm2 : mid ≤ u := by omega
                go_upto_region 20 with fail
                rw [hmid]
                clear hmid
                go_cut [89] (fun s89 wx => s89 = .bool (decide (mid ≤ Q)) ∧ Below wq.heap.size wq wx)
                case first =>
                  have HYQ : Row wq.drew b (M.dig y) cb := (HY17.out.below HBQ.out).drewN 1
                  have hbd : Below wq.heap.size wq wq.drew := belowN (Below.refl _ wq) 1
                  have HRQ := Lib.hid (HR17.out.below HBQ.out)
                  have hdec : decide (Lib.compareInt ((y * mid : Nat) : Int) (R : Int) ≤ 0) = decide (mid ≤ Q) := by
                    have h1 : mid ≤ Q ↔ y * mid ≤ R := by rw [← HQ.out, Nat.le_div_iff_mul_le hy, Nat.mul_comm]
                    rcases Nat.lt_trichotomy (y * mid) R with h | h | h
                    · rw [compare_lt (by omega), decide_eq_true (h1.2 (by omega))]; rfl
                    · rw [compare_eq (by omega), decide_eq_true (h1.2 (by omega))]; rfl
                    · rw [compare_gt (by omega), decide_eq_false (p := mid ≤ Q) (fun h2 => by have := h1.1 h2; omega)]; rfl
                  have HDEC := Lib.hid hdec
                  clear hdec
                  go_region_law (first
                    | (go_simp; go_at_call 112; (with_reducible refine (rtimes_any b cb y mid _ (by omega) (by omega) HYQ).mono ?_); rintro e wt ⟨⟨g9, cap9, rfl, hrow9⟩, hb9'⟩; have hb9 := hbd.trans hb9'; have p8t := cell_below hb9 p8; have hrt := HRQ.out.below hb9; go_simp)
                    | (go_simp; go_at_call 111; (with_reducible refine (rcmp_any (some ⟨g9, 0, none⟩) (some ⟨gl, 0, none⟩) cap9 cap' (y * mid) R _ hrow9 hrt).mono ?_); rintro e wu ⟨rfl, hb10⟩; go_simp))
                  all_goals (
                    have hbf := hb9.trans (hb10.mono hb9.size)
                    go_wp2_with fail
                    go_meet
                    exact ⟨by rw [← HDEC.out, Int.natCast_mul], hbf⟩)
                case rest =>
                  obtain ⟨rfl, hbz⟩ := hcut
                  have HBZ := Lib.hid (HBQ.out.trans (hbz.mono HBQ.out.size))
                  clear hbz p1 p8
                  by_cases hmq : mid ≤ Q
                  · have hmd : decide (mid ≤ Q) = true := decide_eq_true hmq
                    rw [hmd]
                    go_wp2_with fail
                    go_roundw
                    case rel => exact ⟨mid, u, rfl, rfl, hmq, hu, hu2, HBZ.out⟩
                    case measure => simp [intOf]; omega
                  · have hmd : decide (mid ≤ Q) = false := decide_eq_false hmq
                    rw [hmd]
                    go_wp2_with fail
                    go_roundw
                    case rel => exact ⟨l, mid - 1, rfl, by go_num, hl, by omega, by omega, HBZ.out⟩
                    case measure => simp [intOf]; omega
              · have hlQ : l = Q := by omega
                have hjz : j < zs.length := by rw [HST.out.len]; exact hj
                have HOQ := Lib.hid (HO14.out.below (HB15.out.trans (HBQ.out.mono HB15.out.size)))
                obtain ⟨_, e', _, hgw, _, _, hcz, hfz⟩ := HOQ.out.at2 j hjz
                cases e'
                subst hlQ
                have hdv := M.div_step (X := M.xs x j) (X' := M.xs x (j + 1)) (y := y) (d := d.toNat) hy (by omega) (by rw [M.xs_step hj, HD.out])
                rw [HR.out, HRR.out, HQ.out] at hdv
                have hmle : y * l ≤ R := by rw [← HQ.out]; exact Nat.mul_div_le R y
                have hmod : R - y * l = M.xs x j % y := by
                  rw [hdv.2.1, ← HQ.out]
                  have := Nat.div_add_mod R y
                  omega
                have HMOD := Lib.hid hmod
                have HDV := Lib.hid hdv.1
                have hwq : Below w6.heap.size w6 wq := HB14.out.trans ((HB15.out.trans (HBQ.out.mono HB15.out.size)).mono HB14.out.size)
                have hgr : w6.heap.size < wr.heap.size := Nat.lt_trans HS7.out (lt_of_cell HST.out.cell)
                have hp6 : w.heap.size + 1 ≠ w6.heap.size := by omega
                have f17 := frozen_below HB15.out (show w14.cell? ⟨w7.heap.size, 0, none⟩ = some (.slice (some ⟨gl, 0, none⟩) (M.dig R).length cap') from HP14.out) HQF.out
                have fq := frozen_below HBQ.out HPC.out.2 f17
                have s1 := (cell_other (W := wq) (p := ⟨w6.heap.size, j, none⟩) (a := ⟨w.heap.size + 1, 0, none⟩) (.int .i64 (l : Int)) hp6).trans p1
                have s8 := (cell_other (W := wq) (p := ⟨w6.heap.size, j, none⟩) (a := ⟨w7.heap.size, 0, none⟩) (.int .i64 (l : Int)) (Nat.ne_of_gt HS7.out)).trans p8
                have sf : (wq.setCell ⟨w6.heap.size, j, none⟩ (.int .i64 (l : Int))).frozen? ⟨w7.heap.size, 0, none⟩ = false := (World.frozen?_setCell _ _ _ _).trans fq
                have HB23 := Lib.hid (hwq.setCell (p := ⟨w6.heap.size, j, none⟩) (Nat.le_refl _) (.int .i64 (l : Int)))
                have HO23 := Lib.hid (HOQ.out.setL j (l : Int))
                have HR23 := Lib.hid ((HR17.out.below HBQ.out).setFresh (B := wr.heap.size) (fun b off e _ => by cases e; exact hgl) (p := ⟨w6.heap.size, j, none⟩) hgr (.int .i64 (l : Int)))
                go_upto_region 24 with fail
                generalize (wq.setCell ⟨w6.heap.size, j, none⟩ (.int .i64 (l : Int))) = w23 at *
                have HY23 : Row w23.drew b (M.dig y) cb := (HBR6.out.below HB23.out).drewN 1
                have hbd : Below w23.heap.size w23 w23.drew := belowN (Below.refl _ w23) 1
                have SF := Lib.hid sf
                have SC := Lib.hid s8
                clear hmod hdv hcz hfz f17 fq p1 p8 sf hmle hwq hgw
                have HML := Lib.hid (show y * l ≤ R by rw [← HQ.out]; exact Nat.mul_div_le R y)
                go_region_law (first
                  | (go_simp; go_at_call 112; (with_reducible refine (rtimes_any b cb y l _ (by omega) (by omega) HY23).mono ?_); rintro e wt ⟨⟨g9, cap9, rfl, hrow9⟩, hb9'⟩; have hb9 := hbd.trans hb9'; have p8t := cell_below hb9 s8; have hrt := HR23.out.below hb9; go_simp)
                  | (go_simp; go_at_call 113; (with_reducible refine (rless_any (some ⟨gl, 0, none⟩) (some ⟨g9, 0, none⟩) cap' cap9 R (y * l) _ (by omega) HML.out hrt (fun h => nomatch h) hrow9).mono ?_); rintro e wu ⟨⟨a3, c3, rfl, hr3, hn3, hf3⟩, hb10⟩; have p8u := cell_below hb10 p8t; have f8u := frozen_below hb10 p8t (frozen_below hb9 s8 SF.out); go_simp))
                all_goals (
                  have HBF := Lib.hid (hb9.trans (hb10.mono hb9.size))
                  have HR3 := Lib.hid hr3
                  have HF3 := Lib.hid hf3
                  have hszt := hb9.size
                  have h8u : w7.heap.size < w23.heap.size := lt_of_cell s8
                  clear hb9 hb10 hb9' hbd hr3 hf3 hrt hrow9 p8t
                  go_wp2_with fail
                  go_roundw
                  case rel =>
                    have e := HMOD.out
                    have h6 := HB23.out.size
                    refine ⟨j, zs.set j (l : Int), a3, c3, rfl, by omega, by rw [List.length_set]; exact HST.out.len, HST.out.lim.set j (by omega) (by omega), ?_, ?_, ?_, (World.frozen?_setCell _ _ _ _).trans f8u, ?_, ?_, hn3, ?_, HST.out.bnd⟩
                    · rw [M.q_step _ hjz, HST.out.quo, HDV.out]
                      generalize M.xs x (j + 1) / y = t
                      omega
                    · exact (HO23.out.below HBF.out).other (p := ⟨w7.heap.size, 0, none⟩) _ (by simp [Value.ownBlock]; omega)
                    · rw [← e]; exact World.cell?_setCell_same _ _ _ p8u
                    · rw [← e]; exact HR3.out.setFresh HF3.out (p := ⟨w7.heap.size, 0, none⟩) (by show w7.heap.size < _; omega) _
                    · rw [← e]; exact fun b off h hl => Nat.le_trans (by omega) (HF3.out b off h hl)
                    · exact (HB23.out.trans (HBF.out.mono HB23.out.size)).setCell (p := ⟨w7.heap.size, 0, none⟩) (Nat.le_of_lt HS7.out) _
                  case measure => (simp [intOf]; try omega))
end Go.Proofs.YtmejneobfkbgeaaGreatDoor

namespace Go.Proofs.YtmejneobfkbgeaaGreatDoor
open Go Go.RowKit Go.Shelf

set_option maxRecDepth 100000 in
set_option maxHeartbeats 1000000 in
theorem rof_any (N : Nat) (w : World) (hN : N ≤ 9223372036854775807) :
    Calls Tryz.prog 61 #[.int .i64 (N : Int)] w fun e W' => ∃ v, e = .returned (.tuple #[v, .int .i64 0]) ∧ Num W' v N ∧ Below w.heap.size w W' := by
  have HL := Lib.hid (M.dig_len_le.2 (Nat.lt_of_le_of_lt hN (by decide)) : (M.dig N).length ≤ 3)
  have c0 := cell_of_new w (.slice none 0 0) 41
  go_enter Tryz.func61, Tryz.ntmps61
  go_wp2
  go_loopw [0, 4] (fun t v wr => OfRel w N t v wr) (fun t _ _ => (intOf t).toNat)
  case atStart => exact ⟨N, [], rfl, Nat.le_refl _, Own.nil _ _, rfl, c0.1, c0.2, (Below.refl _ w).alloc (Nat.le_refl _) _⟩
  case round =>
    obtain ⟨m, pre, rfl, hm, hown, hdig, hc0, hf0, hB⟩ := hrel
    obtain ⟨a, cap, rfl, hr⟩ := hown.row
    have HR := Lib.hid hr
    clear hr
    have HD := Lib.hid hdig
    clear hdig
    by_cases h0 : m = 0
    · subst h0
      have HE := Lib.hid (show M.dig N = pre by rw [HD.out, M.dig_zero, List.append_nil])
      go_wp2
      refine bodyPost_ret (v := .tuple #[.agg #[.slice a pre.length cap], .int .i64 0]) (by simp [results, Tryz.results61, go_sem, hc0]) rfl ⟨.agg #[.slice a pre.length cap], rfl, ?_, hB.setCell (p := ⟨w.heap.size, 0, none⟩) (Nat.le_refl _) _⟩
      refine Own.num (B := w.heap.size + 1) ?_
      rw [HE.out]
      exact hown.setBelow (Nat.lt_succ_self _) _
    · have hm1 : 0 < m := by omega
      clear h0
      have hpre : pre.length < 1000000 := by have := HL.out; rw [HD.out, List.length_append] at this; omega
      have hsz := hB.size
      go_wp2_with (at_builtin; refine wpList_app1 rfl _ _ rfl rfl (hown.alloc _) rfl (cell_new _ _ _) hpre (by simp; omega) ?_; intro a' cap' W' hown' hb')
      go_roundw
      case rel =>
        refine ⟨m / 16777216, pre ++ [((m % 16777216 : Nat) : Int)], by go_num, by omega, by simpa using hown', by rw [HD.out, M.dig_pos (by omega), List.append_assoc]; rfl, (hb'.cell (p := ⟨w.heap.size, 0, none⟩) (by simp)).trans (cell_later _ hc0), (hb'.frozen (p := ⟨w.heap.size, 0, none⟩) (by simp)).trans (frozen_later _ hc0 hf0), hB.trans (((Below.refl _ wr).alloc hsz _).trans (hb'.mono (by omega)))⟩
      case measure => simp [intOf]; omega
end Go.Proofs.YtmejneobfkbgeaaGreatDoor

namespace Go.Proofs.YtmejneobfkbgeaaGreatDoor.M
theorem dig_len_add {x y k : Nat} (hx : (dig x).length ≤ k) (hy : (dig y).length ≤ k) : (dig (x + y)).length ≤ k + 1 := by
  rw [dig_len_le] at *
  rw [Nat.pow_succ]; omega
theorem dig_len_mul {x y j k : Nat} (hx : (dig x).length ≤ j) (hy : (dig y).length ≤ k) : (dig (x * y)).length ≤ j + k := by
  rw [dig_len_le] at *
  rw [Nat.pow_add]
  exact Nat.mul_lt_mul_of_lt_of_le hx (Nat.le_of_lt hy) (Nat.pow_pos (by decide))
theorem dig_len_mono {x y : Nat} (h : x ≤ y) : (dig x).length ≤ (dig y).length := dig_len_le.2 (Nat.lt_of_le_of_lt h (dig_len_le.1 (Nat.le_refl _)))
end Go.Proofs.YtmejneobfkbgeaaGreatDoor.M
