/- The reference's ValidFault. -/
import Derived.Test.YtdgkdoccllolpaaDoorPVFM
import Derived.Test.YtdgkdoccllolpaaDoorPNamed
import Derived.Test.YtdgkdoccllolpaaDoorPRPlace
namespace Go.Proofs.YtdgkdoccllolpaaDoor.P
open Go Go.RowKit Go.Shelf
open G
set_option maxRecDepth 100000 in
set_option maxHeartbeats 4000000 in
theorem rvfault_any (x : Nat → Int) (chips kd : Int) (pl : Nat → Int) (ch m v : Int) (hd : Bool) (W : World) :
    Calls Tryd.prog 32 #[.agg #[.int .i64 (x 0), .int .i64 (x 1), .int .i64 (x 2), .int .i64 (x 3), .int .i64 (x 4), .int .i64 (x 5)], .int .i64 chips, .agg #[.int .i64 kd, .int .i64 (pl 0), .int .i64 (pl 1), .int .i64 (pl 2), .int .i64 (pl 3), .int .i64 (pl 4), .int .i64 (pl 5), .int .i64 ch, .int .u8 m, .int .u8 v, .bool hd]] W fun e W' => e = .returned (.bool (vfB x chips kd pl ch m v hd)) ∧ Below W.heap.size W W' := by
  have HK := Lib.hid (fun W => named_any kd W)
  have HVP := Lib.hid (fun W => rvplace_any x pl W)
  have HX := Lib.hid (fun W => numbers_any pl W)
  have hsx := (Six.new W 23 x).alloc (.cells #[.int .i64 kd, .int .i64 (pl 0), .int .i64 (pl 1), .int .i64 (pl 2), .int .i64 (pl 3), .int .i64 (pl 4), .int .i64 (pl 5), .int .i64 ch, .int .u8 m, .int .u8 v, .bool hd] 26)
  have hsf := Flt.new (W.alloc (.cells #[.int .i64 (x 0), .int .i64 (x 1), .int .i64 (x 2), .int .i64 (x 3), .int .i64 (x 4), .int .i64 (x 5)] 23)) kd pl ch m v hd
  have hb0 := ((Below.refl _ W).alloc (Nat.le_refl _) (.cells #[.int .i64 (x 0), .int .i64 (x 1), .int .i64 (x 2), .int .i64 (x 3), .int .i64 (x 4), .int .i64 (x 5)] 23)).alloc (by simp) (.cells #[.int .i64 kd, .int .i64 (pl 0), .int .i64 (pl 1), .int .i64 (pl 2), .int .i64 (pl 3), .int .i64 (pl 4), .int .i64 (pl 5), .int .i64 ch, .int .u8 m, .int .u8 v, .bool hd] 26)
  rw [World.size_alloc] at hsf
  obtain ⟨w0, hw0⟩ : ∃ w0, (W.alloc (.cells #[.int .i64 (x 0), .int .i64 (x 1), .int .i64 (x 2), .int .i64 (x 3), .int .i64 (x 4), .int .i64 (x 5)] 23)).alloc (.cells #[.int .i64 kd, .int .i64 (pl 0), .int .i64 (pl 1), .int .i64 (pl 2), .int .i64 (pl 3), .int .i64 (pl 4), .int .i64 (pl 5), .int .i64 ch, .int .u8 m, .int .u8 v, .bool hd] 26) = w0 := ⟨_, rfl⟩
  rw [hw0] at hsx hsf hb0
  have HB0 := Lib.hid hb0
  obtain ⟨f0, f1, f2, f3, f4, f5, f6, f7, f8, f9, f10⟩ := hsf.all
  go_enter Tryd.func32, Tryd.ntmps32
  go_wp2_with fail
  refine (HK.out _).mono ?_
  rintro e w1' ⟨rfl, hb1'⟩
  obtain ⟨w1, hw1⟩ : ∃ w1, w1'.alloc (.cells #[.bool (nmB kd 0), .bool (nmB kd 1), .bool (nmB kd 2), .bool (nmB kd 3), .bool (nmB kd 4), .bool (nmB kd 5)] 66) = w1 := ⟨_, rfl⟩
  have hbl := Bls.new w1' (nmB kd)
  have hb1 := hb1'.trans ((Below.refl _ w1').alloc hb1'.size (.cells #[.bool (nmB kd 0), .bool (nmB kd 1), .bool (nmB kd 2), .bool (nmB kd 3), .bool (nmB kd 4), .bool (nmB kd 5)] 66))
  obtain ⟨pb, hpb⟩ : ∃ p, w1'.heap.size = p := ⟨_, rfl⟩
  rw [hw1] at hbl hb1
  rw [hpb] at hbl
  have HB1 := Lib.hid (HB0.out.trans (hb1.mono HB0.out.size))
  have HBL := Lib.hid hbl
  have hsf1 := hsf.below hb1
  have hsx1 := hsx.below hb1
  clear f0 f1 f2 f3 f4 f5 f6 f7 f8 f9 f10
  obtain ⟨f0, f1, f2, f3, f4, f5, f6, f7, f8, f9, f10⟩ := hsf1.all
  obtain ⟨c0, c1, c2, c3, c4, c5⟩ := hsx1.all
  clear hsf hsx hb0 hb1' hbl hb1 HB0 HK
  cases hk : knB kd with
  | false =>
    have HN := Lib.hid (vf_no (x := x) (chips := chips) (k := kd) (pl := pl) (c := ch) (m := m) (v := v) (h := hd) (.inl hk))
    go_wp2_with fail
    go_ret
    exact ⟨ret_bool HN.out.symm, HB1.out⟩
  | true =>
  go_wp2_with fail
  refine (HVP.out _).mono ?_
  rintro e w2 ⟨rfl, hb2⟩
  have HB2 := Lib.hid (HB1.out.trans (hb2.mono HB1.out.size))
  cases hvp : vpB x pl with
  | false =>
    have HN := Lib.hid (vf_no (x := x) (chips := chips) (k := kd) (pl := pl) (c := ch) (m := m) (v := v) (h := hd) (.inr (.inl hvp)))
    go_wp2_with fail
    go_ret
    exact ⟨ret_bool HN.out.symm, HB2.out⟩
  | true =>
  have hsf2 := hsf1.below hb2
  have HSF := Lib.hid hsf2
  have HBL2 := Lib.hid (HBL.out.below hb2)
  clear f0 f1 f2 f3 f4 f5 f6 f7 f8 f9 f10
  obtain ⟨f0, f1, f2, f3, f4, f5, f6, f7, f8, f9, f10⟩ := hsf2.all
  clear HB1 HVP hsf1 hsf2 hb2 c0 c1 c2 c3 c4 c5 hsx1 HBL
  have HKK := Lib.hid (And.intro hk hvp)
  clear hk hvp
  obtain ⟨t, hte⟩ : ∃ t, bits BinOp.andNot IntKind.u8 v m = t := ⟨_, rfl⟩
  by_cases hc1 : ch < 0
  · have HN := Lib.hid (vf_no (x := x) (chips := chips) (k := kd) (pl := pl) (c := ch) (m := m) (v := v) (h := hd) (.inr (.inr (.inr (.inl hc1)))))
    go_wp2_with fail
    go_ret
    exact ⟨ret_bool HN.out.symm, HB2.out⟩
  by_cases hc2 : chips ≤ ch
  · have HN := Lib.hid (vf_no (x := x) (chips := chips) (k := kd) (pl := pl) (c := ch) (m := m) (v := v) (h := hd) (.inr (.inr (.inr (.inr (.inl hc2))))))
    go_wp2_with fail
    go_ret
    exact ⟨ret_bool HN.out.symm, HB2.out⟩
  by_cases hm : m = 0
  · have HN := Lib.hid (vf_no (x := x) (chips := chips) (k := kd) (pl := pl) (c := ch) (m := m) (v := v) (h := hd) (.inr (.inr (.inr (.inr (.inr (.inl hm)))))))
    go_wp2_with fail
    go_ret
    exact ⟨ret_bool HN.out.symm, HB2.out⟩
  have hmb : (m == 0) = false := by simpa using hm
  by_cases ht : t = 0
  case neg =>
    have ht' : ¬ bits BinOp.andNot IntKind.u8 v m = 0 := by rw [hte]; exact ht
    have htb : (t != 0) = true := by simpa using ht
    have htc : (t == 0) = false := by simpa using ht
    have HN := Lib.hid (vf_no (x := x) (chips := chips) (k := kd) (pl := pl) (c := ch) (m := m) (v := v) (h := hd) (.inr (.inr (.inr (.inr (.inr (.inr (.inl ht'))))))))
    go_wp2_with fail
    go_ret
    exact ⟨ret_bool HN.out.symm, HB2.out⟩
  case pos =>
  subst ht
  by_cases hhv : hd = false ∧ v ≠ 0
  · have HN := Lib.hid (vf_no (x := x) (chips := chips) (k := kd) (pl := pl) (c := ch) (m := m) (v := v) (h := hd) (.inr (.inr (.inr (.inr (.inr (.inr (.inr hhv))))))))
    obtain ⟨hh, hv⟩ := hhv
    have hvb : (v == 0) = false := by simpa using hv
    have hvc : (v != 0) = true := by simpa using hv
    subst hh
    go_wp2_with fail
    go_ret
    exact ⟨ret_bool HN.out.symm, HB2.out⟩
  have h8 : (hd = true) ∨ (hd = false ∧ v = 0) := by
    cases hd with
    | true => exact .inl rfl
    | false => exact .inr ⟨rfl, by by_cases e : v = 0; exact e; exact absurd ⟨rfl, e⟩ hhv⟩
  have HYES := Lib.hid (fun hon => vf_yes (x := x) (chips := chips) (k := kd) (pl := pl) (c := ch) (m := m) (v := v) (h := hd) HKK.out.1 HKK.out.2 hon hc1 hc2 hm hte (h8.elim .inl (fun e => .inr e.2)))
  have HNO := Lib.hid (fun hon => vf_no (x := x) (chips := chips) (k := kd) (pl := pl) (c := ch) (m := m) (v := v) (h := hd) (.inr (.inr (.inl hon))))
  have H8 := Lib.hid h8
  clear h8 hhv
  rcases H8.out with e8 | ⟨e8, e9⟩
  all_goals (
    (first | (subst e8; subst e9) | subst e8)
    go_wp2_with fail
    (with_reducible refine (HX.out _).mono ?_)
    rintro e w3 ⟨rfl, hb3⟩
    obtain ⟨w4, hw4⟩ : ∃ w4, w3.alloc (.cells #[.int .i64 (pl 0), .int .i64 (pl 1), .int .i64 (pl 2), .int .i64 (pl 3), .int .i64 (pl 4), .int .i64 (pl 5)] 61) = w4 := ⟨_, rfl⟩
    have hs := Six.new w3 61 pl
    have hb4 := hb3.trans ((Below.refl _ w3).alloc hb3.size (.cells #[.int .i64 (pl 0), .int .i64 (pl 1), .int .i64 (pl 2), .int .i64 (pl 3), .int .i64 (pl 4), .int .i64 (pl 5)] 61))
    obtain ⟨p, hp⟩ : ∃ p, w3.heap.size = p := ⟨_, rfl⟩
    rw [hw4] at hs hb4
    rw [hp] at hs
    have HP := Lib.hid hs
    have HB4 := Lib.hid (HB2.out.trans (hb4.mono HB2.out.size))
    have HBL4 := Lib.hid (HBL2.out.below hb4)
    clear hs hb3 hb4 f0 f1 f2 f3 f4 f5 f6 f7 f8 f9 f10 HSF HBL2 HB2 HX hte
    go_wp2_with fail
    go_loopw [10] (fun i wr => ∃ k : Nat, i = .int .i64 (k : Int) ∧ k ≤ 6 ∧ Hid (Only kd pl k) ∧ ∃ z, wr = w4.drewN z) (fun i _ => 6 - (intOf i).toNat)
    case atStart => exact ⟨0, rfl, by decide, Lib.hid (Only.zero _ _), 0, rfl⟩
    case round =>
      obtain ⟨k, rfl, hk, HI, z, rfl⟩ := hrel
      by_cases hlt : k < 6
      · have hc := HP.out.at k hlt
        have hcb := HBL4.out.at k hlt
        cases hnm : nmB kd k with
        | true =>
          rw [hnm] at hcb
          have HI2 := Lib.hid (HI.out.succ (.inl hnm))
          clear HI hnm
          go_wp2_with fail
          go_round
          case rel => exact ⟨k + 1, by go_num, hlt, HI2, z, rfl⟩
          case measure => simp [intOf]; omega
        | false =>
          rw [hnm] at hcb
          by_cases he : pl k = 0
          · have HI2 := Lib.hid (HI.out.succ (.inr he))
            have hd1 : (pl k != 0) = false := by rw [he]; rfl
            clear HI hnm
            go_wp2_with fail
            go_round
            case rel => exact ⟨k + 1, by go_num, hlt, HI2, z, rfl⟩
            case measure => simp [intOf]; omega
          · have HN := Lib.hid (HNO.out (only_no hlt hnm he))
            have hd1 : (pl k != 0) = true := by simpa using he
            clear HI hnm
            go_wp2_with fail
            go_ret
            exact ⟨ret_bool HN.out.symm, belowN HB4.out _⟩
      · obtain rfl : k = 6 := by omega
        have HN := Lib.hid (HYES.out (only_yes HI.out))
        clear HI
        go_wp2_with fail
        go_ret
        exact ⟨ret_bool HN.out.symm, belowN HB4.out _⟩)
end Go.Proofs.YtdgkdoccllolpaaDoor.P
