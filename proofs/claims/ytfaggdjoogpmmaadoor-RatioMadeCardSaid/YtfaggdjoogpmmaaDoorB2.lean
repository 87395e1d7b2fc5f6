/- nat.takeOut. The arithmetic of long division. slices.Clone and nat.scale. nat.scale, with the length of what it leaves. slices.Clone of a slice of ints that holds something. What one round of nat.shrink does to memory. nat.shrink: a slice that the caller owns is divided by a small number, in place. -/
import Derived.Test.YtfaggdjoogpmmaaDoorB1
import Derived.Lib.ItoaNum
import Derived.Lib.BitFns
import Derived.WalkSpells
namespace Go.Proofs.YtfaggdjoogpmmaaDoor
open Go Go.RowKit Go.Shelf

theorem Own.midRow {W : World} {B g cap L : Nat} {xs qs us : List Int} (h : Own W B (.slice (some ⟨g, 0, none⟩) L cap) (xs ++ qs ++ us)) {cp : Nat} (hc : qs.length ≤ cp) (hc2 : cp ≤ 9223372036854775807) : Row W (some ⟨g, xs.length, none⟩) qs cp :=
  ⟨hc, hc2, fun j hj => ⟨g, xs.length, rfl, (h.mid j hj).1⟩⟩

theorem grown_any {w W : World} {row : Option Nat} (h : Below w.heap.size w W) : w.grownBy W row := ⟨h.os, h.tape, h.output, h.size, fun k hk _ => h.block k hk⟩

def ToPost (w : World) (B g cap L n : Nat) (xs ps us ds : List Int) (e : Ending) (W : World) : Prop :=
  ∃ qs : List Int, e = .returned (.int .i64 (M.val ps / M.val ds)) ∧ qs.length = n + 2 + 1 ∧ M.Lim qs ∧ M.val qs = M.val ps % M.val ds ∧ Own W B (.slice (some ⟨g, 0, none⟩) L cap) (xs ++ qs ++ us) ∧ w.grownBy W (some g)

set_option maxRecDepth 100000 in
set_option maxHeartbeats 1000000 in
/-- **nat.takeOut** -/
theorem takeOut_any (B g cap L cp cd n : Nat) (xs ps us ds : List Int) (ad : Option Addr) (w : World) (hown : Own w B (.slice (some ⟨g, 0, none⟩) L cap) (xs ++ ps ++ us))
    (hlp : ps.length = n + 2 + 1) (hcp : n + 2 + 1 ≤ cp) (hcp2 : cp ≤ 9223372036854775807) (hd : Row w ad ds cd) (hld : ds.length = n + 2) (hne : ∀ b off, ad = some ⟨b, off, none⟩ → b ≠ g)
    (hlimp : M.Lim ps) (hlimd : M.Lim ds) (htop : 8388608 ≤ M.el ds (n + 1)) (hlt : M.val ps < M.val ds * 16777216) :
    Calls Tryd.prog 115 #[.slice (some ⟨g, xs.length, none⟩) (n + 2 + 1) cp, .slice ad (n + 2) cd] w (ToPost w B g cap L n xs ps us ds) := by
  obtain ⟨g1, g2, g3⟩ := M.guess_int hlp hld hlimp hlimd htop hlt
  have hD0 := M.val_pos_top hld hlimd htop
  have hgs := guess_any _ ad ps ds cp cd n w (hown.midRow (by omega) hcp2) hd hlp hld hlimp hlimd htop
  obtain ⟨q, hq⟩ : ∃ q, min ((M.el ps (n + 2) * 281474976710656 + M.el ps (n + 1) * 16777216 + M.el ps n) / (M.el ds (n + 1) * 16777216 + M.el ds n)) 16777215 = q := ⟨_, rfl⟩
  rw [hq] at g1 g2 g3 hgs
  rw [hlp, hld] at hgs
  have g4 : q ≤ 16777215 := by omega
  have hP0 := M.val_nonneg hlimp
  have HGS := Lib.hid hgs
  have hDl := M.val_lt hlimd
  rw [hld] at hDl
  have htz := hlimp.get (n + 2)
  have HP := Lib.hid (show M.Lim (ps.take (n + 2)) from hlimp.take _)
  have HO := Lib.hid hown
  have HD := Lib.hid hd
  have HNE := Lib.hid hne
  have HLP := Lib.hid hlp
  have HLD := Lib.hid hld
  have HLIMD := Lib.hid hlimd
  clear hgs hq hown hd hne hlp hlimp hlimd hld hlt htop
  go_enter Tryd.func115, Tryd.ntmps115
  go_wp2_with fail
  refine HGS.out.mono ?_
  rintro e w1 ⟨rfl, hb1⟩
  have HO1 := Lib.hid (HO.out.below (hb1))
  have HB1 := Lib.hid hb1
  have HD1 := Lib.hid (HD.out.below hb1)
  have hs1 := hb1.size
  clear hb1
  go_wp2_with fail
  refine (show Calls Tryd.prog 119 _ w1 _ from addTimes_any B g cap L cp cd (n + 2) xs ps us ds ad (-q) w1 HO1.out HLP.out hcp HD1.out HLD.out HNE.out HP.out (by omega) HLIMD.out (by omega)).mono ?_
  rintro e w2 ⟨ts, rfl, hlt, hlimt, hvt, hot, hgt⟩
  have HO2 := Lib.hid hot
  have hs2 := hgt.size
  have HG2 := Lib.hid (grown_trans (grown_any HB1.out) hgt)
  have HD2 := Lib.hid (HD1.out.grown hgt (fun b off e => by intro h; cases h; exact HNE.out _ _ e rfl))
  have HLT := Lib.hid hlt
  have HLIMT := Lib.hid hlimt
  have HVT := Lib.hid hvt
  clear hlt hlimt hvt hot hgt HO HO1 HD1 HB1
  by_cases hc : q = M.val ps / M.val ds
  · obtain ⟨z1, z2, z3⟩ := M.take_zero hD0 hc
    rw [← HVT.out] at z1 z2 z3
    have ez := M.top_zero HLT.out HLIMT.out z1 (Int.lt_trans z2 hDl)
    rw [ez]
    have HEZ := Lib.hid ez
    have HC := Lib.hid hc
    clear ez hc g1 g2
    go_wp2_with fail
    go_ret
    exact ⟨ts, by rw [← HC.out]; rfl, HLT.out, M.lim_of_top HLT.out HLIMT.out HEZ.out, z3, HO2.out, HG2.out⟩
  · have hc1 : q = M.val ps / M.val ds + 1 := by omega
    obtain ⟨z1, z2, z3⟩ := M.take_one hD0 hc1
    rw [← HVT.out] at z1 z2 z3
    have ez := M.top_neg HLT.out HLIMT.out z1 (by omega)
    rw [ez]
    have HEZ := Lib.hid ez
    have HC := Lib.hid hc1
    clear ez hc hc1 g1 g2
    have hq0 : 0 < q := by
      have h1 := HC.out
      have h2 := Int.ediv_nonneg hP0 (Int.le_of_lt hD0)
      omega
    go_wp2_with fail
    refine (show Calls Tryd.prog 119 _ w2 _ from addTimes_any B g cap L cp cd (n + 2) xs ts us ds ad 1 w2 HO2.out HLT.out hcp HD2.out HLD.out HNE.out HLIMT.out (by rw [HEZ.out]; omega) HLIMD.out (by omega)).mono ?_
    rintro e w3 ⟨rs, rfl, hlr, hlimr, hvr, hor, hgr⟩
    have HO3 := Lib.hid hor
    have HG3 := Lib.hid (grown_trans HG2.out hgr)
    have HLR := Lib.hid hlr
    have HLIMR := Lib.hid hlimr
    have HVR := Lib.hid hvr
    clear hlr hlimr hvr hor hgr
    go_wp2_with fail
    go_ret
    have hv : M.val rs = M.val ps % M.val ds := by rw [HVR.out, Int.one_mul, z3]
    have ez := M.top_zero HLR.out HLIMR.out (by rw [hv]; exact Int.emod_nonneg _ (by omega)) (by rw [hv]; exact Int.lt_trans (Int.emod_lt_of_pos _ hD0) hDl)
    exact ⟨rs, (show _ = Ending.returned (Value.int .i64 (q - 1)) from rfl).trans (by rw [HC.out, Int.add_sub_cancel]), HLR.out, M.lim_of_top HLR.out HLIMR.out ez, hv, HO3.out, HG3.out⟩
end Go.Proofs.YtfaggdjoogpmmaaDoor

namespace Go.Proofs.YtfaggdjoogpmmaaDoor.M

theorem norm_factor (y l : Nat) (h : Lib.bitLen y = l) (h0 : 0 < y) (h1 : y < 16777216) :
    1 ≤ l ∧ l ≤ 24 ∧ 0 < 2 ^ (24 - l) ∧ 2 ^ (24 - l) < 16777216 ∧ 8388608 ≤ y * 2 ^ (24 - l) ∧ (y + 1) * 2 ^ (24 - l) ≤ 16777216 := by
  obtain ⟨b1, b2, b3⟩ := Lib.bitLenAux_bounds 64 y (by omega) (by omega)
  change 1 ≤ Lib.bitLen y at b1
  change 2 ^ (Lib.bitLen y - 1) ≤ y at b2
  change y < 2 ^ Lib.bitLen y at b3
  rw [h] at b1 b2 b3
  have hl : l ≤ 24 := by
    have : l - 1 < 24 := (Nat.pow_lt_pow_iff_right (a := 2) (by decide)).1 (Nat.lt_of_le_of_lt b2 (by omega : y < 2 ^ 24))
    omega
  have e1 : 2 ^ l * 2 ^ (24 - l) = 16777216 := by rw [← Nat.pow_add, show l + (24 - l) = 24 by omega]
  have e2 : 2 ^ (l - 1) * 2 ^ (24 - l) = 8388608 := by rw [← Nat.pow_add, show l - 1 + (24 - l) = 23 by omega]
  refine ⟨b1, hl, Nat.pow_pos (by decide), ?_, ?_, ?_⟩
  · exact Nat.lt_of_le_of_lt (Nat.pow_le_pow_right (by decide) (by omega : 24 - l ≤ 23)) (by decide)
  · rw [← e2]; exact Nat.mul_le_mul_right _ b2
  · rw [← e1]; exact Nat.mul_le_mul_right _ b3

/-- The value of limbs with a given highest one. -/
theorem val_top {ys : List Int} {k : Nat} (hl : ys.length = k + 1) (hy : Lim ys) : el ys k * 16777216 ^ k ≤ val ys ∧ val ys < (el ys k + 1) * 16777216 ^ k := by
  have h1 := val_take_succ ys k (by omega)
  rw [List.take_of_length_le (by omega)] at h1
  have h2 := val_lt (hy.take k)
  have h3 := val_nonneg (hy.take k)
  rw [List.length_take, Nat.min_eq_left (by omega)] at h2
  rw [Int.add_mul, Int.mul_comm (el ys k)]
  omega

/-- Scaled by the factor, the divisor keeps its length and has its highest bit. -/
theorem scaled_divisor {ys ds : List Int} {n F : Nat} (hl : ys.length = n + 2) (hy : Lim ys) (hd : Lim ds) (hv : val ds = val ys * F) (h8 : 8388608 ≤ el ys (n + 1) * F) (h16 : (el ys (n + 1) + 1) * F ≤ 16777216)
    (hlen : ds.length = ys.length ∨ ds.length = ys.length + 1 ∧ 0 < el ds ys.length) : ds.length = n + 2 ∧ 8388608 ≤ el ds (n + 1) := by
  obtain ⟨t1, t2⟩ := val_top (k := n + 1) hl hy
  have hK := pow_pos (n + 1)
  have hF : (0 : Int) ≤ F := by omega
  have u1 : val ds < 16777216 * 16777216 ^ (n + 1) := by
    rcases Nat.eq_zero_or_pos F with rfl | hF0
    · omega
    · have a1 : val ys * F < (el ys (n + 1) + 1) * 16777216 ^ (n + 1) * F := Int.mul_lt_mul_of_pos_right t2 (by omega)
      have a2 : (el ys (n + 1) + 1) * 16777216 ^ (n + 1) * F = (el ys (n + 1) + 1) * F * 16777216 ^ (n + 1) := by rw [Int.mul_right_comm]
      have a3 : (el ys (n + 1) + 1) * F * 16777216 ^ (n + 1) ≤ 16777216 * 16777216 ^ (n + 1) := Int.mul_le_mul_of_nonneg_right h16 (by omega)
      omega
  have u2 : 8388608 * 16777216 ^ (n + 1) ≤ val ds := by
    have a1 : el ys (n + 1) * 16777216 ^ (n + 1) * F ≤ val ys * F := Int.mul_le_mul_of_nonneg_right t1 hF
    have a2 : el ys (n + 1) * 16777216 ^ (n + 1) * F = el ys (n + 1) * F * 16777216 ^ (n + 1) := by rw [Int.mul_right_comm]
    have a3 : 8388608 * 16777216 ^ (n + 1) ≤ el ys (n + 1) * F * 16777216 ^ (n + 1) := Int.mul_le_mul_of_nonneg_right h8 (by omega)
    omega
  have hlen2 : ds.length = n + 2 := by
    rcases hlen with h | ⟨h, h0⟩
    · omega
    · exfalso
      rw [hl] at h h0
      have t3 := (val_top (k := n + 2) h hd).1
      have : 1 * 16777216 ^ (n + 2) ≤ el ds (n + 2) * 16777216 ^ (n + 2) := Int.mul_le_mul_of_nonneg_right (by omega) (Int.le_of_lt (pow_pos _))
      have e : (16777216 : Int) ^ (n + 2) = 16777216 * 16777216 ^ (n + 1) := by rw [Int.pow_succ, Int.mul_comm]
      omega
  refine ⟨hlen2, ?_⟩
  have t4 := (val_top (k := n + 1) hlen2 hd).2
  have : 8388608 * 16777216 ^ (n + 1) < (el ds (n + 1) + 1) * 16777216 ^ (n + 1) := by omega
  have := Int.lt_of_mul_lt_mul_right this (by omega)
  omega

/-- What is left above the first place to be taken: less than the divisor. -/
theorem start_lt {xs ys rs ds : List Int} {n m F : Nat} (hla : xs.length = n + 2 + m) (hlb : ys.length = n + 2) (hx : Lim xs) (hy : Lim ys) (hr : Lim rs) (htop : 0 < el ys (n + 1)) (hF : 0 < F)
    (hvr : val rs = val xs * F) (hvd : val ds = val ys * F) (hlr : m + 1 ≤ rs.length) : val (rs.drop (m + 1)) < val ds := by
  have h1 := val_split rs (m + 1)
  rw [Nat.min_eq_left hlr] at h1
  have h2 := val_nonneg (hr.take (m + 1))
  have h3 := val_lt hx
  rw [hla] at h3
  have h4 := (val_top (k := n + 1) hlb hy).1
  have hK := pow_pos (n + 1)
  have h5 : 1 * 16777216 ^ (n + 1) ≤ el ys (n + 1) * 16777216 ^ (n + 1) := Int.mul_le_mul_of_nonneg_right (by omega) (by omega)
  have e : (16777216 : Int) ^ (n + 2 + m) = 16777216 ^ (m + 1) * 16777216 ^ (n + 1) := by rw [← Int.pow_add]; congr 1; omega
  rw [e] at h3
  have hM := pow_pos (m + 1)
  have h6 : val xs * F < 16777216 ^ (m + 1) * 16777216 ^ (n + 1) * F := Int.mul_lt_mul_of_pos_right h3 (by omega)
  have h7 : (16777216 : Int) ^ (m + 1) * 16777216 ^ (n + 1) * F ≤ 16777216 ^ (m + 1) * val ds := by
    rw [hvd, Int.mul_assoc]
    refine Int.mul_le_mul_of_nonneg_left ?_ (by omega)
    exact Int.mul_le_mul_of_nonneg_right (by omega) (by omega)
  have h8 : 16777216 ^ (m + 1) * val (rs.drop (m + 1)) < 16777216 ^ (m + 1) * val ds := by omega
  exact Int.lt_of_mul_lt_mul_left h8 (by omega)

theorem val_drop_succ (rs : List Int) (k : Nat) (hk : k < rs.length) : val (rs.drop k) = el rs k + 16777216 * val (rs.drop (k + 1)) := by
  rw [drop_el rs k hk, val]

/-- The part from which a place is taken, and the limbs above it. -/
theorem part_lt {rs : List Int} {k n : Nat} {D : Int} (hr : Lim rs) (hk : k + (n + 2 + 1) ≤ rs.length) (hD : D ≤ 16777216 ^ (n + 2)) (h : val (rs.drop (k + 1)) < D) :
    val (rs.drop (k + (n + 2 + 1))) = 0 ∧ val ((rs.drop k).take (n + 2 + 1)) = val (rs.drop k) ∧ val (rs.drop k) < D * 16777216 := by
  have h1 := val_append ((rs.drop (k + 1)).take (n + 2)) ((rs.drop (k + 1)).drop (n + 2))
  rw [List.take_append_drop, List.drop_drop, List.length_take, List.length_drop, Nat.min_eq_left (by omega), show k + 1 + (n + 2) = k + (n + 2 + 1) by omega] at h1
  have h2 := val_nonneg ((hr.drop (k + 1)).take (n + 2))
  have h3 := val_nonneg (hr.drop (k + (n + 2 + 1)))
  have hP := pow_pos (n + 2)
  have h0 : val (rs.drop (k + (n + 2 + 1))) = 0 := by
    rcases Int.lt_or_eq_of_le h3 with h4 | h4
    · have : 16777216 ^ (n + 2) * 1 ≤ (16777216 : Int) ^ (n + 2) * val (rs.drop (k + (n + 2 + 1))) := Int.mul_le_mul_of_nonneg_left (by omega) (by omega)
      omega
    · exact h4.symm
  have h5 := val_append ((rs.drop k).take (n + 2 + 1)) ((rs.drop k).drop (n + 2 + 1))
  rw [List.take_append_drop, List.drop_drop, h0, Int.mul_zero, Int.add_zero] at h5
  have h6 := val_drop_succ rs k (by omega)
  have h7 := hr.get k
  exact ⟨h0, h5.symm, by omega⟩

theorem split3 (rs : List Int) (k n : Nat) : rs.take k ++ (rs.drop k).take n ++ rs.drop (k + n) = rs := by
  rw [List.append_assoc, ← List.drop_drop, List.take_append_drop, List.take_append_drop]

/-- One place of the quotient. -/
theorem long_step {rs qs ts : List Int} {k n : Nat} {D A : Int} (hk : k + (n + 2 + 1) ≤ rs.length) (hq : k < qs.length) (hts : ts.length = n + 2 + 1) (hD : 0 < D)
    (h0 : val (rs.drop (k + (n + 2 + 1))) = 0) (hp : val ((rs.drop k).take (n + 2 + 1)) = val (rs.drop k)) (hv : val ts = val ((rs.drop k).take (n + 2 + 1)) % D)
    (hA : A = val rs + D * 16777216 ^ (k + 1) * val (qs.drop (k + 1))) :
    A = val (rs.take k ++ ts ++ rs.drop (k + (n + 2 + 1))) + D * 16777216 ^ k * val ((qs.set k (val ((rs.drop k).take (n + 2 + 1)) / D)).drop k) ∧
    val ((rs.take k ++ ts ++ rs.drop (k + (n + 2 + 1))).drop k) < D := by
  have lk : (rs.take k).length = k := by rw [List.length_take]; omega
  have e1 : val (rs.take k ++ ts ++ rs.drop (k + (n + 2 + 1))) = val (rs.take k) + 16777216 ^ k * val ts := by
    rw [val_append, val_append, h0, Int.mul_zero, Int.add_zero, lk]
  have e2 := val_split rs k
  rw [Nat.min_eq_left (by omega), ← hp] at e2
  have e3 : val ((rs.take k ++ ts ++ rs.drop (k + (n + 2 + 1))).drop k) = val ts := by
    rw [List.append_assoc, List.drop_left' lk, val_append, h0, Int.mul_zero, Int.add_zero]
  have e4 : val ((qs.set k (val ((rs.drop k).take (n + 2 + 1)) / D)).drop k) = val ((rs.drop k).take (n + 2 + 1)) / D + 16777216 * val (qs.drop (k + 1)) := by
    rw [val_drop_succ _ k (by rw [List.length_set]; exact hq), el_set _ _ _ _ hq, if_pos rfl, List.drop_set_of_lt (by omega)]
  have e5 := Int.mul_ediv_add_emod (val ((rs.drop k).take (n + 2 + 1))) D
  rw [← hv] at e5
  refine ⟨?_, by rw [e3, hv]; exact Int.emod_lt_of_pos _ hD⟩
  rw [hA, e1, e2, e4, Int.pow_succ]
  generalize val ((rs.drop k).take (n + 2 + 1)) / D = q at *
  rw [← e5]
  generalize (16777216 : Int) ^ k = P
  generalize val (qs.drop (k + 1)) = Q
  generalize val ts = T
  generalize val (rs.take k) = U
  clear hA e1 e2 e3 e4 e5 hv hp h0
  grind

theorem long_end {xs ys rs qs : List Int} {F : Nat} (hF : 0 < F) (hr : Lim rs) (hA : val xs * F = val rs + val ys * F * val qs) (hlt : val rs < val ys * F) : val qs = val xs / val ys ∧ val (shr (F : Int) rs).2 = val xs % val ys := by
  have hF2 : (0 : Int) < F := by omega
  have h0 := val_nonneg hr
  have hY : 0 < val ys * F := by omega
  have hy : 0 < val ys := by
    rcases Int.lt_or_le 0 (val ys) with h | h
    · exact h
    · have := Int.mul_nonpos_of_nonpos_of_nonneg h (Int.le_of_lt hF2); omega
  have h1 := (Int.ediv_emod_unique (a := val xs * F) (r := val rs) (q := val qs) hY).2 ⟨by rw [hA], h0, hlt⟩
  have h2 : val xs * F / (val ys * F) = val xs / val ys := Int.mul_ediv_mul_of_pos_left _ _ hF2
  have h3 := shr_val (F : Int) rs
  have h4 := shr_rest (F : Int) hF2 rs
  refine ⟨by rw [← h2]; exact h1.1.symm, ?_⟩
  have h5 := (Int.ediv_emod_unique (a := val rs) (r := (shr (F : Int) rs).1) (q := val (shr (F : Int) rs).2) hF2).2 ⟨by rw [Int.mul_comm]; omega, h4.1, h4.2⟩
  rw [← h5.1, ← h1.2, Int.mul_comm (val xs), Int.mul_comm (val ys), Int.mul_emod_mul_of_pos _ _ hF2, Int.mul_ediv_cancel_left _ (by omega)]
end Go.Proofs.YtfaggdjoogpmmaaDoor.M

namespace Go.Proofs.YtfaggdjoogpmmaaDoor
open Go Go.RowKit Go.Shelf
attribute [local go_sem] mask24

def SclRel (w : World) (B : Nat) (a : Option Addr) (cap : Nat) (zs : List Int) (f c0 : Nat) (c i : Value) (wr : World) : Prop :=
  ∃ (k : Nat) (ys : List Int) (q : Int), i = .int .i64 (k : Int) ∧ c = .int .i64 q ∧ k ≤ zs.length ∧ ys.length = zs.length ∧ M.Lim ys ∧ 0 ≤ q ∧ q < 16777216 ∧ ys.drop k = zs.drop k ∧
    M.val (ys.take k) + 16777216 ^ k * q = M.val (zs.take k) * f + c0 ∧ Own wr B (.slice a zs.length cap) ys ∧ Below B w wr

/-- What scale leaves: the limbs of the number times f and c0, in memory of the call's own from B on. -/
def SclPost (w : World) (B : Nat) (zs : List Int) (f c0 : Nat) (e : Ending) (W : World) : Prop :=
  ∃ a' cap' ys, e = .returned (.slice a' ys.length cap') ∧ Own W B (.slice a' ys.length cap') ys ∧ Below B w W ∧ M.Lim ys ∧ ys.length ≤ zs.length + 1 ∧ M.val ys = M.val zs * f + c0

set_option maxRecDepth 100000 in
set_option maxHeartbeats 1000000 in
/-- **nat.scale** -/
theorem scale_any (B : Nat) (a : Option Addr) (cap : Nat) (zs : List Int) (f c0 : Nat) (w : World) (hB : B ≤ w.heap.size) (hf : f < 16777216) (hc0 : c0 < 16777216) (hlim : M.Lim zs) (hlen : zs.length < 100000) (hown : Own w B (.slice a zs.length cap) zs) :
    Calls Tryd.prog 76 #[.slice a zs.length cap, .int .i64 (f : Int), .int .i64 (c0 : Int)] w (SclPost w B zs f c0) := by
  have HL := Lib.hid hlim
  have hm := hown.rowAt.room
  have hm2 := hown.rowAt.most
  have HO0 := Lib.hid hown
  clear hlim hown
  go_enter Tryd.func76, Tryd.ntmps76
  go_wp2
  go_loopw [7, 13] (fun c i wr => SclRel w B a cap zs f c0 c i wr) (fun _ i _ => zs.length - (intOf i).toNat)
  case atStart => exact ⟨0, zs, c0, rfl, rfl, Nat.zero_le _, rfl, HL.out, by omega, by omega, rfl, by simp [M.val], HO0.out, Below.refl _ _⟩
  case round =>
    obtain ⟨k, ys, q, rfl, rfl, hk, hlen2, hlim, hq0, hq1, hdrop, hval, hown, hbW⟩ := hrel
    have HLN := Lib.hid hlen2
    have HD := Lib.hid hdrop
    have HV := Lib.hid hval
    have HLIM := Lib.hid hlim
    have HO := Lib.hid hown
    have HB := Lib.hid hbW
    clear hlen2 hdrop hval hlim hown hbW
    have hbs := HB.out.size
    by_cases hlt : k < zs.length
    · obtain ⟨g, rfl, hgB, hgW, h3, h4, hcz, hfz⟩ := HO.out.at2 k (by rw [HLN.out]; exact hlt)
      have hel := HL.out.get k
      have hez : M.el ys k = M.el zs k := by
        have := congrArg (fun l => M.el l 0) HD.out
        simpa only [M.el_drop, Nat.add_zero] using this
      rw [hez] at hcz
      have HEZ := Lib.hid hez
      clear hez
      have hmb := M.mul_bound hel (b := (f : Int)) (by omega)
      go_wp2
      go_roundw
      case rel =>
        have hkl : k < ys.length := by rw [HLN.out]; exact hlt
        refine ⟨k + 1, ys.set k ((q + M.el zs k * (f : Int)) % 16777216), (q + M.el zs k * (f : Int)) / 16777216, by go_num, rfl, by omega, by rw [List.length_set]; exact HLN.out, HLIM.out.set _ (by omega) (by omega), by omega, by omega, ?_, ?_, ?_, HB.out.setCell (p := ⟨g, k, none⟩) hgB _⟩
        · rw [List.drop_set_of_lt (by omega)]
          have := congrArg (List.drop 1) HD.out
          rwa [List.drop_drop, List.drop_drop] at this
        · rw [M.val_set_succ _ _ _ hkl, M.val_take_succ', Int.pow_succ]
          have h1 := M.pow_split (16777216 ^ k) (q + M.el zs k * (f : Int))
          have h2 := HV.out
          rw [Int.mul_add, ← Int.mul_assoc] at h1
          rw [Int.add_mul]
          omega
        · have := HO.out
          rw [← HLN.out] at this ⊢
          exact this.set k _
      case measure => simp [intOf]; omega
    · have hk' : k = zs.length := by omega
      have hv := HV.out
      rw [List.take_of_length_le (by rw [HLN.out]; omega), List.take_of_length_le (by omega), hk'] at hv
      have HV2 := Lib.hid hv
      have HK := Lib.hid hk'
      clear hv hk'
      by_cases hq : 0 < q
      · go_wp2_with (at_builtin; refine wpList_app1 rfl _ _ rfl rfl (HO.out.alloc _) rfl (cell_new _ _ _) (by rw [HLN.out]; omega) (by simp; omega) ?_; intro a' cap' W' hown' hb')
        go_ret
        refine ⟨a', cap', ys ++ [q], by rw [List.length_append, HLN.out]; rfl, hown', HB.out.trans (((Below.refl B wr).alloc (by omega) _).trans hb'), HLIM.out.append (M.Lim.cons hq0 hq1 M.Lim.nil), by simp [HLN.out], ?_⟩
        rw [M.val_append, HLN.out]
        simpa [M.val] using HV2.out
      · have hq2 : q = 0 := by omega
        have hv := HV2.out
        rw [hq2] at hv
        have HV3 := Lib.hid hv
        clear hv hq2
        go_wp2
        go_ret
        exact ⟨a, cap, ys, by rw [HLN.out]; rfl, by rw [HLN.out]; exact HO.out, HB.out, HLIM.out, by rw [HLN.out]; omega, by simpa using HV3.out⟩
end Go.Proofs.YtfaggdjoogpmmaaDoor

namespace Go.Proofs.YtfaggdjoogpmmaaDoor
open Go Go.RowKit Go.Shelf
attribute [local go_sem] mask24

def SclFull (w : World) (B : Nat) (zs : List Int) (f c0 : Nat) (e : Ending) (W : World) : Prop :=
  ∃ a' cap' ys, e = .returned (.slice a' ys.length cap') ∧ Own W B (.slice a' ys.length cap') ys ∧ Below B w W ∧ M.Lim ys ∧ ys.length ≤ zs.length + 1 ∧ M.val ys = M.val zs * f + c0 ∧ (ys.length = zs.length ∨ ys.length = zs.length + 1 ∧ 0 < M.el ys zs.length)

set_option maxRecDepth 100000 in
set_option maxHeartbeats 1000000 in
/-- **nat.scale**, with the length of what it leaves. -/
theorem scale_full (B : Nat) (a : Option Addr) (cap : Nat) (zs : List Int) (f c0 : Nat) (w : World) (hB : B ≤ w.heap.size) (hf : f < 16777216) (hc0 : c0 < 16777216) (hlim : M.Lim zs) (hlen : zs.length < 100000) (hown : Own w B (.slice a zs.length cap) zs) :
    Calls Tryd.prog 76 #[.slice a zs.length cap, .int .i64 (f : Int), .int .i64 (c0 : Int)] w (SclFull w B zs f c0) := by
  have HL := Lib.hid hlim
  have hm := hown.rowAt.room
  have hm2 := hown.rowAt.most
  have HO0 := Lib.hid hown
  clear hlim hown
  go_enter Tryd.func76, Tryd.ntmps76
  go_wp2
  go_loopw [7, 13] (fun c i wr => SclRel w B a cap zs f c0 c i wr) (fun _ i _ => zs.length - (intOf i).toNat)
  case atStart => exact ⟨0, zs, c0, rfl, rfl, Nat.zero_le _, rfl, HL.out, by omega, by omega, rfl, by simp [M.val], HO0.out, Below.refl _ _⟩
  case round =>
    obtain ⟨k, ys, q, rfl, rfl, hk, hlen2, hlim, hq0, hq1, hdrop, hval, hown, hbW⟩ := hrel
    have HLN := Lib.hid hlen2
    have HD := Lib.hid hdrop
    have HV := Lib.hid hval
    have HLIM := Lib.hid hlim
    have HO := Lib.hid hown
    have HB := Lib.hid hbW
    clear hlen2 hdrop hval hlim hown hbW
    have hbs := HB.out.size
    by_cases hlt : k < zs.length
    · obtain ⟨g, rfl, hgB, hgW, h3, h4, hcz, hfz⟩ := HO.out.at2 k (by rw [HLN.out]; exact hlt)
      have hel := HL.out.get k
      have hez : M.el ys k = M.el zs k := by
        have := congrArg (fun l => M.el l 0) HD.out
        simpa only [M.el_drop, Nat.add_zero] using this
      rw [hez] at hcz
      have HEZ := Lib.hid hez
      clear hez
      have hmb := M.mul_bound hel (b := (f : Int)) (by omega)
      go_wp2
      go_roundw
      case rel =>
        have hkl : k < ys.length := by rw [HLN.out]; exact hlt
        refine ⟨k + 1, ys.set k ((q + M.el zs k * (f : Int)) % 16777216), (q + M.el zs k * (f : Int)) / 16777216, by go_num, rfl, by omega, by rw [List.length_set]; exact HLN.out, HLIM.out.set _ (by omega) (by omega), by omega, by omega, ?_, ?_, ?_, HB.out.setCell (p := ⟨g, k, none⟩) hgB _⟩
        · rw [List.drop_set_of_lt (by omega)]
          have := congrArg (List.drop 1) HD.out
          rwa [List.drop_drop, List.drop_drop] at this
        · rw [M.val_set_succ _ _ _ hkl, M.val_take_succ', Int.pow_succ]
          have h1 := M.pow_split (16777216 ^ k) (q + M.el zs k * (f : Int))
          have h2 := HV.out
          rw [Int.mul_add, ← Int.mul_assoc] at h1
          rw [Int.add_mul]
          omega
        · have := HO.out
          rw [← HLN.out] at this ⊢
          exact this.set k _
      case measure => simp [intOf]; omega
    · have hk' : k = zs.length := by omega
      have hv := HV.out
      rw [List.take_of_length_le (by rw [HLN.out]; omega), List.take_of_length_le (by omega), hk'] at hv
      have HV2 := Lib.hid hv
      have HK := Lib.hid hk'
      clear hv hk'
      by_cases hq : 0 < q
      · go_wp2_with (at_builtin; refine wpList_app1 rfl _ _ rfl rfl (HO.out.alloc _) rfl (cell_new _ _ _) (by rw [HLN.out]; omega) (by simp; omega) ?_; intro a' cap' W' hown' hb')
        go_ret
        refine ⟨a', cap', ys ++ [q], by rw [List.length_append, HLN.out]; rfl, hown', HB.out.trans (((Below.refl B wr).alloc (by omega) _).trans hb'), HLIM.out.append (M.Lim.cons hq0 hq1 M.Lim.nil), by simp [HLN.out], ?_⟩
        constructor
        · rw [M.val_append, HLN.out]
          simpa [M.val] using HV2.out
        · refine .inr ⟨by simp [HLN.out], ?_⟩
          rw [M.el_append_right (by rw [HLN.out]; omega), HLN.out, Nat.sub_self]
          exact hq
      · have hq2 : q = 0 := by omega
        have hv := HV2.out
        rw [hq2] at hv
        have HV3 := Lib.hid hv
        clear hv hq2
        go_wp2
        go_ret
        exact ⟨a, cap, ys, by rw [HLN.out]; rfl, by rw [HLN.out]; exact HO.out, HB.out, HLIM.out, by rw [HLN.out]; omega, by simpa using HV3.out, .inl HLN.out⟩
end Go.Proofs.YtfaggdjoogpmmaaDoor

namespace Go.Proofs.YtfaggdjoogpmmaaDoor
open Go Go.RowKit Go.Shelf

theorem own_empty (w : World) (B : Nat) (h : B ≤ w.heap.size) : Own (w.alloc (.cells #[] 3)) B (.slice (some ⟨w.heap.size, 0, none⟩) 0 0) [] :=
  World.ownsRow_made (base := B) (e := 3) (size := 1) w #[] 0 h (by unfold maxLen; omega) rfl

/-- **append(s, t...)**, s owned, t any. -/
theorem wpList_appAll {W : World} {ops : Array Oper} {rest : List Oper} {o : Oper} {a : Act} {Q : Exit → Act → World → Prop} (hgd : o.guard = none) (s x : Operand)
    (ho : o.op = .call { callee := .builtin .append, args := #[s, x], argTypes := #[22, 22] }) {B : Nat} {v : Value} {zs ys : List Int} (hs : a.eval s = v) (hown : Own W B v zs)
    {b off cap : Nat} (hx : a.eval x = .slice (some ⟨b, off, none⟩) ys.length cap) (hr : Row W (some ⟨b, off, none⟩) ys cap) (hl : zs.length + ys.length < 1000000) (hbase : B ≤ W.heap.size)
    (h : ∀ a' cap' W', Own W' B (.slice a' (zs ++ ys).length cap') (zs ++ ys) → Below B W W' → wpList Tryd.prog ops Q rest (a.put o.dst (.slice a' (zs.length + ys.length) cap')) W') : wpList Tryd.prog ops Q (o :: rest) a W := by
  obtain ⟨i0, hi, hz0, hz1, hz2⟩ := info_parts info_int
  refine wpList_append_own W hgd s x 22 ho B 3 i0 (.int .i64 0) 1 8 Tryd.underlying22 hi hz0 hz1 hz2 rfl (by decide) v zs.length (zs.map (Value.int .i64)) hs hown ⟨b, off, none⟩ ys.length cap (ys.map (Value.int .i64)) hx (by simp) ?_ ?_ (by unfold maxLen; omega) (by omega) hbase ?_
  · intro j u hj
    rw [List.getElem?_map] at hj
    by_cases hlt : j < ys.length
    · have hc := hr.cell j hlt
      rw [List.getElem?_eq_getElem hlt] at hj
      simp only [Option.map_some, Option.some.injEq] at hj
      subst hj
      rw [M.el, List.getElem?_eq_getElem hlt] at hc
      by_cases hj0 : j = 0
      · subst hj0; simpa [Addr.add] using hc
      · simpa [Addr.add, hj0] using hc
    · rw [List.getElem?_eq_none (by omega)] at hj; simp at hj
  · intro u hu
    obtain ⟨z, _, rfl⟩ := List.mem_map.1 hu
    rfl
  · intro v' W' hown' hgrow _
    have ho2 : Own W' B v' (zs ++ ys) := by unfold Own; rw [List.length_append, List.map_append]; exact hown'
    have hB2 : Below B W W' := (Below.refl B W).grown hgrow hbase (fun k e => (World.ownsRow.lt hown k e).1)
    obtain ⟨a', cap', rfl, _⟩ := ho2.row
    have := h a' cap' W' ho2 hB2
    simpa using this

set_option maxRecDepth 100000 in
set_option maxHeartbeats 1000000 in
/-- **slices.Clone** -/
theorem clone_any (a : Option Addr) (zs : List Int) (cap : Nat) (w : World) (hR : Row w a zs cap) (h0 : 0 < zs.length) (hl : zs.length < 100000) :
    Calls Tryd.prog 80 #[.slice a zs.length cap] w fun e W' => ∃ a' cap', e = .returned (.slice a' zs.length cap') ∧ Own W' w.heap.size (.slice a' zs.length cap') zs ∧ Below w.heap.size w W' := by
  obtain ⟨b, off, rfl, _⟩ := hR.el 0 h0
  have HR := Lib.hid (hR.alloc (.cells #[] 3))
  have HO := Lib.hid (own_empty w w.heap.size (Nat.le_refl _))
  clear hR
  have q22 : ∀ (w : World) (a : Option Addr) (n c n' c' : Nat), (binOp .eql 22 (.slice a n c) (.slice none n' c')).run Tryd.prog w = .ok (.bool a.isNone) w := fun w a n c n' c' => Lib.run_eql_slice_nil w _ _ a n c n' c' Tryd.underlying22
  go_enter Tryd.func80, Tryd.ntmps80
  go_wp2_with (at_builtin; refine wpList_appAll rfl _ _ rfl rfl HO.out rfl HR.out (by simp; omega) (by simp) ?_; intro a' cap' W' hown' hb')
  go_ret
  exact ⟨a', cap', rfl, by simpa using hown', ((Below.refl _ w).alloc (Nat.le_refl _) _).trans hb'⟩
end Go.Proofs.YtfaggdjoogpmmaaDoor

namespace Go.Proofs.YtfaggdjoogpmmaaDoor
open Go Go.RowKit Go.Shelf
attribute [local go_sem] Oper.semAt_some mask24

theorem ownFrom_grown {β : Type} {w₀ : World} {row₀ : Option Nat} {B : Nat} (hB : w₀.heap.size ≤ B) : OwnFrom B (fun (_ : β) W => w₀.grownBy W row₀) :=
  fun _ W W' row hs hg hr => ⟨hg.os.trans hs.os, hg.tape.trans hs.tape, hg.output.trans hs.output, Nat.le_trans hs.size hg.size, fun k hk hne => by
    refine (hg.block k (Nat.lt_of_lt_of_le hk hs.size) ?_).trans (hs.block k hk hne)
    intro e
    have := (hr k e.symm).1
    omega⟩

/-- What is owned from B on, while blocks that hold no cells turn beyond. -/
theorem ownFrom_own {β : Type} {B0 B : Nat} {v : Value} (f : β → List Int) : OwnFrom B0 (fun s W => Own W B v (f s)) := fun s W W' row hs hg hr =>
  World.ownsRow.kept hs hg (by
    cases hv : v.ownBlock with
    | none => exact .inl rfl
    | some k =>
      refine .inr ?_
      intro e
      obtain ⟨_, o, ho, hc⟩ := hr k e.symm
      obtain ⟨_, h2 | ⟨g, cap, cur, rfl, hb, hh, _⟩⟩ := hs
      · rw [h2.1] at hv; simp [Value.ownBlock] at hv
      · simp [Value.ownBlock] at hv
        subst hv
        rw [hh] at ho
        cases ho
        simp [Obj.isCells] at hc)

theorem grown_setCell {w W : World} {row : Option Nat} (h : w.grownBy W row) {a : Addr} (u : Value) (ha : w.heap.size ≤ a.block ∨ row = some a.block) : w.grownBy (W.setCell a u) row := by
  refine ⟨h.os, h.tape, h.output, by rw [show (W.setCell a u).heap.size = W.heap.size by simp [World.setCell]]; exact h.size, fun k hk hne => ?_⟩
  refine (Below.heap_setCell W a u k ?_).trans (h.block k hk hne)
  rintro rfl
  rcases ha with h | h
  · omega
  · exact hne h.symm
theorem grown_alloc {w W : World} {row : Option Nat} (h : w.grownBy W row) (o : Obj) : w.grownBy (W.alloc o) row :=
  ⟨h.os, h.tape, h.output, by rw [World.size_alloc]; exact Nat.le_succ_of_le h.size, fun k hk hne => (Below.heap_alloc W o k (Nat.lt_of_lt_of_le hk h.size)).trans (h.block k hk hne)⟩
theorem grown_drew {w W : World} {row : Option Nat} (h : w.grownBy W row) : w.grownBy W.drew row := ⟨h.os, h.tape, h.output, h.size, h.block⟩

/-- What holds in shrink's loop when k elements are still to come. -/
def ShrI (w : World) (B : Nat) (a : Option Addr) (cap : Nat) (zs : List Int) (d : Int) (k : Nat) (W : World) : Prop :=
  (W.cell? ⟨w.heap.size, 0, none⟩ = some (.slice a zs.length cap) ∧ W.cell? ⟨w.heap.size + 1, 0, none⟩ = some (.int .i64 d) ∧ W.cell? ⟨w.heap.size + 1 + 1, 0, none⟩ = some (.int .i64 (M.shr d (zs.drop k)).1) ∧ W.frozen? ⟨w.heap.size + 1 + 1, 0, none⟩ = false ∧
    W.cell? ⟨w.heap.size + 1 + 1 + 1, 0, none⟩ = some (.slice a zs.length cap)) ∧ Own W B (.slice a zs.length cap) (M.shrAt d zs k) ∧ w.grownBy W (Value.slice a zs.length cap).ownBlock

theorem shrI_own {w : World} {B B0 : Nat} {a : Option Addr} {cap : Nat} {zs : List Int} {d : Int} (hB0 : w.heap.size ≤ B0) : OwnFrom B0 (ShrI w B a cap zs d) :=
  OwnFrom.and (Own.from (fun _ _ _ _ hs hg hr => ⟨cell_kept hs.1 hg hr, cell_kept hs.2.1 hg hr, cell_kept hs.2.2.1 hg hr, (frozen_kept hs.2.2.1 hg hr).trans hs.2.2.2.1, cell_kept hs.2.2.2.2 hg hr⟩) _)
    (OwnFrom.and (ownFrom_own _) (ownFrom_grown hB0))

theorem cell_other {W : World} {p a : Addr} (u : Value) (h : a.block ≠ p.block) : (W.setCell p u).cell? a = W.cell? a :=
  World.cell?_of_block (Below.heap_setCell W p u a.block h)

theorem shr_step {w W : World} {B B0 g cap : Nat} {zs : List Int} {d r x : Int} {k : Nat} (hgw : g < w.heap.size) (hc0 : W.cell? ⟨w.heap.size, 0, none⟩ = some (.slice (some ⟨g, 0, none⟩) zs.length cap))
    (hc1 : W.cell? ⟨w.heap.size + 1, 0, none⟩ = some (.int .i64 d)) (hc2 : W.cell? ⟨w.heap.size + 1 + 1, 0, none⟩ = some (.int .i64 r)) (hf2 : W.frozen? ⟨w.heap.size + 1 + 1, 0, none⟩ = false)
    (hc3 : W.cell? ⟨w.heap.size + 1 + 1 + 1, 0, none⟩ = some (.slice (some ⟨g, 0, none⟩) zs.length cap)) (HO : Own W B (.slice (some ⟨g, 0, none⟩) zs.length cap) (M.shrAt d zs (k + 1))) (HG : w.grownBy W (Value.slice (some ⟨g, 0, none⟩) zs.length cap).ownBlock)
    (HS : (M.shrAt d zs (k + 1)).set k (x / d) = M.shrAt d zs k) (HR : (M.shr d (zs.drop k)).1 = x % d) :
    KeepsFrom B0 W (((W.setCell ⟨w.heap.size + 1 + 1, 0, none⟩ (.int .i64 x)).setCell ⟨g, k, none⟩ (.int .i64 (x / d))).setCell ⟨w.heap.size + 1 + 1, 0, none⟩ (.int .i64 (x % d))).drew ∧
    ShrI w B (some ⟨g, 0, none⟩) cap zs d k (((W.setCell ⟨w.heap.size + 1 + 1, 0, none⟩ (.int .i64 x)).setCell ⟨g, k, none⟩ (.int .i64 (x / d))).setCell ⟨w.heap.size + 1 + 1, 0, none⟩ (.int .i64 (x % d))).drew := by
  have e2 : (((W.setCell ⟨w.heap.size + 1 + 1, 0, none⟩ (.int .i64 x)).setCell ⟨g, k, none⟩ (.int .i64 (x / d))).cell? ⟨w.heap.size + 1 + 1, 0, none⟩).isSome = true := by
    rw [cell_other _ (by simp; omega), World.cell?_setCell_same' _ _ _ (by rw [hc2]; rfl)]; rfl
  refine ⟨(((KeepsOthers.setCell _ _ _).trans (KeepsOthers.setCell _ _ _)).trans ((KeepsOthers.setCell _ _ _).trans (KeepsOthers.drew _))).from _, ⟨?_, ?_, ?_, ?_, ?_⟩, ?_, ?_⟩
  · exact (cell_other _ (by simp; omega)).trans ((cell_other _ (by simp; omega)).trans ((cell_other _ (by simp; omega)).trans hc0))
  · exact (cell_other _ (by simp)).trans ((cell_other _ (by simp; omega)).trans ((cell_other _ (by simp)).trans hc1))
  · rw [HR]; exact World.cell?_setCell_same' _ _ _ e2
  · show World.frozen? (World.setCell _ _ _) _ = false
    rw [World.frozen?_setCell, World.frozen?_setCell, World.frozen?_setCell]; exact hf2
  · exact (cell_other _ (by simp)).trans ((cell_other _ (by simp; omega)).trans ((cell_other _ (by simp)).trans hc3))
  · have hl := M.shrAt_len d zs (k + 1)
    have h1 := HO.other (p := ⟨w.heap.size + 1 + 1, 0, none⟩) (.int .i64 x) (by simp [Value.ownBlock]; omega)
    rw [← hl] at h1
    have h2 := (h1.set k (x / d)).other (p := ⟨w.heap.size + 1 + 1, 0, none⟩) (.int .i64 (x % d)) (by simp [Value.ownBlock]; omega)
    rw [HS, hl] at h2
    exact h2
  · have g1 := grown_setCell HG (a := ⟨w.heap.size + 1 + 1, 0, none⟩) (.int .i64 x) (.inl (by show w.heap.size ≤ w.heap.size + 1 + 1; omega))
    have g2 := grown_setCell g1 (a := ⟨g, k, none⟩) (.int .i64 (x / d)) (.inr rfl)
    exact grown_drew (grown_setCell g2 (a := ⟨w.heap.size + 1 + 1, 0, none⟩) (.int .i64 (x % d)) (.inl (by show w.heap.size ≤ w.heap.size + 1 + 1; omega)))

end Go.Proofs.YtfaggdjoogpmmaaDoor

namespace Go.Proofs.YtfaggdjoogpmmaaDoor
open Go Go.RowKit Go.Shelf
attribute [local go_sem] Oper.semAt_some mask24

set_option maxRecDepth 100000 in
set_option maxHeartbeats 2000000 in
theorem shrink_any (B : Nat) (a : Option Addr) (cap : Nat) (zs : List Int) (d : Nat) (w : World) (hd : 0 < d) (hd2 : d < 549755813888) (hlim : M.Lim zs) (hown : Own w B (.slice a zs.length cap) zs) :
    Calls Tryd.prog 77 #[.slice a zs.length cap, .int .i64 (d : Int)] w fun e W' => e = .returned (.int .i64 (M.shr d zs).1) ∧ Own W' B (.slice a zs.length cap) (M.shr d zs).2 ∧ w.grownBy W' (Value.slice a zs.length cap).ownBlock := by
  refine (callsIn_wide (n := 6)).1 ?_
  refine callsIn_of_wp_marks Tryd.func77 rfl trivial ?_ rfl
  simp only [Tryd.ntmps77, List.size_toArray, List.length_cons, List.length_nil, Nat.reduceAdd, Nat.reduceSub, Array.replicate_succ, Array.replicate_zero, List.push_toArray, List.append_toArray, List.nil_append, List.cons_append]
  gi_wp2_with (refine ⟨trivial, ?_⟩; gi_at_call 85; refine (callsIn_wide.2 (backward_any _ _ _ _)).mono ?_; rintro e w' ⟨rfl, rfl⟩)
  have c0 := cell_new w (.slice a zs.length cap) 22
  have c1 := cell_new (w.alloc (.cells #[.slice a zs.length cap] 22)) (.int .i64 (d : Int)) 3
  have c2 := cell_new ((w.alloc (.cells #[.slice a zs.length cap] 22)).alloc (.cells #[.int .i64 (d : Int)] 3)) (.int .i64 0) 3
  have f2 := frozen_new ((w.alloc (.cells #[.slice a zs.length cap] 22)).alloc (.cells #[.int .i64 (d : Int)] 3)) (.int .i64 0) 3
  have c3 := cell_new (((w.alloc (.cells #[.slice a zs.length cap] 22)).alloc (.cells #[.int .i64 (d : Int)] 3)).alloc (.cells #[.int .i64 0] 3)) (.slice a zs.length cap) 22
  simp only [World.size_alloc] at c1 c2 f2 c3
  have hrow := hown.rowAt
  have hm : zs.length ≤ 9223372036854775807 := by have := hrow.room; have := hrow.most; omega
  have hgr := grown_alloc (grown_alloc (grown_alloc (grown_alloc (World.grownBy.refl w (Value.slice a zs.length cap).ownBlock) (.cells #[.slice a zs.length cap] 22)) (.cells #[.int .i64 (d : Int)] 3)) (.cells #[.int .i64 0] 3)) (.cells #[.slice a zs.length cap] 22)
  have ho4 := (((hown.alloc (.cells #[.slice a zs.length cap] 22)).alloc (.cells #[.int .i64 (d : Int)] 3)).alloc (.cells #[.int .i64 0] 3)).alloc (.cells #[.slice a zs.length cap] 22)
  refine wpIn_back (n := 6) (by omega) (Bs := w.heap.size + 1 + 1 + 1) rfl rfl a zs.length cap hm (fun j => M.el zs j) (ShrI w B a cap zs d) (fun _ _ _ => False) (shrI_own (by simp; omega)) (fun _ _ _ _ _ hs _ _ => hs)
    ⟨⟨cell_later _ (cell_later _ (cell_later _ c0)), cell_later _ (cell_later _ c1), by rw [List.drop_length]; exact cell_later _ c2, frozen_later _ c2 f2, c3⟩, by rw [M.shrAt_all]; exact ho4, hgr⟩
    (fun k W h => h.1.2.2.2.2)
    (fun k W h hk => by
      obtain ⟨g, rfl, _, _, _, _, hc, _⟩ := h.2.1.at2 k (by rw [M.shrAt_len]; exact hk)
      rw [M.shrAt_el _ _ _ _ (Nat.lt_succ_self k) hk] at hc
      exact ⟨g, 0, rfl, by simpa using hc⟩)
    (fun k => { tmps := #[.slice a zs.length cap, .int .i64 (d : Int), .pointer (some ⟨w.heap.size, 0, none⟩), .pointer (some ⟨w.heap.size + 1, 0, none⟩), .int .i64 0, .pointer (some ⟨w.heap.size + 1 + 1, 0, none⟩), .int .i64 (k : Int), .int .i64 (M.el zs k), .slice a zs.length cap,
      .func (.func 110) #[] #[.pointer (some ⟨w.heap.size + 1 + 1 + 1, 0, none⟩)], .int .i64 (k : Int), .int .i64 (M.el zs k), undef, undef, undef, undef, undef, undef, undef, undef, undef, undef, undef, undef, undef, undef], defers := [] }) ?assign ?body ?done ?stop
  case assign =>
    intro l k W K hk hK
    gi_wp2
    exact hK
  case body =>
    clear c0 c1 c2 f2 c3 hgr ho4 hrow
    rintro l k W hl hrec ⟨⟨hc0, hc1, hc2, hf2, hc3⟩, hO, hG⟩ hk
    clear hl hrec
    obtain ⟨g, rfl, hgB, hgW, hroom, hmost, hcz, hfz⟩ := hO.at2 k (by rw [M.shrAt_len]; exact hk)
    obtain ⟨g', e', _, hgw, _, _, _, _⟩ := hown.at2 k hk
    cases e'
    have HO := Lib.hid hO
    have HG := Lib.hid hG
    have HW := Lib.hid hgW
    clear hO hG hgW hown
    have hr := M.shr_rest (d : Int) (by omega) (zs.drop (k + 1))
    have hel := hlim.get k
    have HS := Lib.hid (M.shrAt_set (d : Int) zs k hk)
    have HR := Lib.hid (M.shr_drop (d : Int) zs k hk)
    generalize (M.shr (d : Int) (zs.drop (k + 1))).1 = r at *
    have hor := or24 r (M.el zs k) hr.1 (by omega) hel.1 hel.2
    have hmx : Tryd.prog.follows .mixedOrders = true := by kernel_rfl
    have hd0 : ((d : Int) == 0) = false := by simp; omega
    have hd1 : (1 : Int) ≤ d := by omega
    gi_wp2
    gi_region_with_o (fail)
    all_goals gi_wp2
    all_goals exact shr_step (B0 := _) hgw hc0 hc1 hc2 hf2 hc3 HO.out HG.out HS.out HR.out
  case done =>
    rintro D W hD ⟨⟨_, _, hc2, hf2, _⟩, hO, hG⟩ hK
    rw [List.drop_zero] at hc2
    rw [M.shrAt_zero] at hO
    have HO := Lib.hid hO
    have HG := Lib.hid hG
    clear hO hG c0 c1 c2 f2 c3 hgr ho4 hrow
    gi_wp2
    refine ⟨by simp, .inl ⟨_, _, rfl, run_takeDeferred hK, ?_⟩⟩
    refine ⟨_, results_tmp rfl _ _ _, rfl, ?_, ?_⟩
    · exact ownFrom_own (B0 := 0) (fun (_ : Unit) => (M.shr (d : Int) zs).2) () _ _ _ HO.out (grownBy_putObj' _ D (.deferred none)) (fun r e => by cases e; exact ⟨Nat.zero_le _, _, hK, rfl⟩)
    · exact ownFrom_grown (Nat.le_refl _) () _ _ _ HG.out (grownBy_putObj' _ D (.deferred none)) (fun r e => by cases e; exact ⟨by simp at hD; omega, _, hK, rfl⟩)
  case stop =>
    rintro D c k W _ _ h _
    exact h.elim
end Go.Proofs.YtfaggdjoogpmmaaDoor
