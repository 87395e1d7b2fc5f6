/- part.ValidFault. -/
import Derived.Test.YtdgkdoccllolpaaDoorPOnly
import Derived.Test.YtdgkdoccllolpaaDoorPVFM
namespace Go.Proofs.YtdgkdoccllolpaaDoor.P
open Go Go.RowKit Go.Shelf
open G
set_option maxRecDepth 100000 in
set_option maxHeartbeats 2000000 in
theorem vfault_any (x : Nat → Int) (chips kd : Int) (pl : Nat → Int) (ch m v : Int) (hd : Bool) (W : World) (hT : Tab W) :
    Calls Tryd.prog 31 #[.agg #[.int .i64 (x 0), .int .i64 (x 1), .int .i64 (x 2), .int .i64 (x 3), .int .i64 (x 4), .int .i64 (x 5)], .int .i64 chips, .agg #[.int .i64 kd, .int .i64 (pl 0), .int .i64 (pl 1), .int .i64 (pl 2), .int .i64 (pl 3), .int .i64 (pl 4), .int .i64 (pl 5), .int .i64 ch, .int .u8 m, .int .u8 v, .bool hd]] W fun e W' => e = .returned (.bool (vfB x chips kd pl ch m v hd)) ∧ Below W.heap.size W W' := by
  have HK := Lib.hid (fun W => known_any kd W)
  rw [kn_eq] at HK
  have HVP := Lib.hid (fun W => vplace_any x pl W)
  have hsx := (Six.new W 23 x).alloc (.cells #[.int .i64 kd, .int .i64 (pl 0), .int .i64 (pl 1), .int .i64 (pl 2), .int .i64 (pl 3), .int .i64 (pl 4), .int .i64 (pl 5), .int .i64 ch, .int .u8 m, .int .u8 v, .bool hd] 26)
  have hsf := Flt.new (W.alloc (.cells #[.int .i64 (x 0), .int .i64 (x 1), .int .i64 (x 2), .int .i64 (x 3), .int .i64 (x 4), .int .i64 (x 5)] 23)) kd pl ch m v hd
  have hb0 := ((Below.refl _ W).alloc (Nat.le_refl _) (.cells #[.int .i64 (x 0), .int .i64 (x 1), .int .i64 (x 2), .int .i64 (x 3), .int .i64 (x 4), .int .i64 (x 5)] 23)).alloc (by simp) (.cells #[.int .i64 kd, .int .i64 (pl 0), .int .i64 (pl 1), .int .i64 (pl 2), .int .i64 (pl 3), .int .i64 (pl 4), .int .i64 (pl 5), .int .i64 ch, .int .u8 m, .int .u8 v, .bool hd] 26)
  have ht := hT.below hb0
  rw [World.size_alloc] at hsf
  obtain ⟨w0, hw0⟩ : ∃ w0, (W.alloc (.cells #[.int .i64 (x 0), .int .i64 (x 1), .int .i64 (x 2), .int .i64 (x 3), .int .i64 (x 4), .int .i64 (x 5)] 23)).alloc (.cells #[.int .i64 kd, .int .i64 (pl 0), .int .i64 (pl 1), .int .i64 (pl 2), .int .i64 (pl 3), .int .i64 (pl 4), .int .i64 (pl 5), .int .i64 ch, .int .u8 m, .int .u8 v, .bool hd] 26) = w0 := ⟨_, rfl⟩
  rw [hw0] at hsx hsf hb0 ht
  have HSX := Lib.hid hsx
  have HSF := Lib.hid hsf
  have HB0 := Lib.hid hb0
  have HT := Lib.hid ht
  obtain ⟨c0, c1, c2, c3, c4, c5⟩ := hsx.all
  obtain ⟨f0, f1, f2, f3, f4, f5, f6, f7, f8, f9, f10⟩ := hsf.all
  clear hsx hsf hb0 ht hT
  go_enter Tryd.func31, Tryd.ntmps31
  go_wp2_with fail
  refine (HK.out _).mono ?_
  rintro e w1' ⟨rfl, rfl⟩
  cases hk : knB kd with
  | false =>
    have HN := Lib.hid (vf_no (x := x) (chips := chips) (k := kd) (pl := pl) (c := ch) (m := m) (v := v) (h := hd) (.inl hk))
    go_wp2_with fail
    go_ret
    exact ⟨ret_bool HN.out.symm, HB0.out⟩
  | true =>
  go_wp2_with fail
  refine (HVP.out _).mono ?_
  rintro e w1 ⟨rfl, hb1⟩
  have HB1 := Lib.hid (HB0.out.trans (hb1.mono HB0.out.size))
  cases hvp : vpB x pl with
  | false =>
    have HN := Lib.hid (vf_no (x := x) (chips := chips) (k := kd) (pl := pl) (c := ch) (m := m) (v := v) (h := hd) (.inr (.inl hvp)))
    go_wp2_with fail
    go_ret
    exact ⟨ret_bool HN.out.symm, HB1.out⟩
  | true =>
  have hsf1 := HSF.out.below hb1
  have HT1 := Lib.hid (HT.out.below hb1)
  clear f0 f1 f2 f3 f4 f5 f6 f7 f8 f9 f10
  obtain ⟨f0, f1, f2, f3, f4, f5, f6, f7, f8, f9, f10⟩ := hsf1.all
  have HO := Lib.hid (show ∀ W, Tab W → Calls Tryd.prog 43 #[.agg #[.int .i64 kd, .int .i64 (pl 0), .int .i64 (pl 1), .int .i64 (pl 2), .int .i64 (pl 3), .int .i64 (pl 4), .int .i64 (pl 5), .int .i64 ch, .int .u8 m, .int .u8 v, .bool hd]] W fun e W' => e = .returned (.bool (onlyB kd pl)) ∧ Below W.heap.size W W' from fun W hT => by
    obtain ⟨n, hn, hn1, hn6⟩ := kn_range hk
    rw [hn]
    exact only_any n hn6 pl ch m v hd W hT)
  go_wp2_with fail
  refine (HO.out _ HT1.out).mono ?_
  rintro e w2 ⟨rfl, hb2⟩
  have HB2 := Lib.hid (HB1.out.trans (hb2.mono HB1.out.size))
  cases hon : onlyB kd pl with
  | false =>
    have HN := Lib.hid (vf_no (x := x) (chips := chips) (k := kd) (pl := pl) (c := ch) (m := m) (v := v) (h := hd) (.inr (.inr (.inl hon))))
    go_wp2_with fail
    go_ret
    exact ⟨ret_bool HN.out.symm, HB2.out⟩
  | true =>
  have hsf2 := hsf1.below hb2
  clear f0 f1 f2 f3 f4 f5 f6 f7 f8 f9 f10
  obtain ⟨f0, f1, f2, f3, f4, f5, f6, f7, f8, f9, f10⟩ := hsf2.all
  clear HSX HSF HB0 HB1 HT HT1 HO HVP HK hsf1 hsf2 hb1 hb2 c0 c1 c2 c3 c4 c5
  have HKK := Lib.hid (And.intro hk (And.intro hvp hon))
  clear hk hvp hon
  obtain ⟨t, hte⟩ : ∃ t, bits BinOp.andNot IntKind.u8 v m = t := ⟨_, rfl⟩
  by_cases hc1 : ch < 0
  · have HN := Lib.hid (vf_no (x := x) (chips := chips) (k := kd) (pl := pl) (c := ch) (m := m) (v := v) (h := hd) (.inr (.inr (.inr (.inl hc1)))))
    go_wp2_with fail
    go_ret
    exact ⟨ret_bool HN.out.symm, HB2.out⟩
  by_cases hc2 : chips ≤ ch
  · have HN := Lib.hid (vf_no (x := x) (chips := chips) (k := kd) (pl := pl) (c := ch) (m := m) (v := v) (h := hd) (.inr (.inr (.inr (.inr (.inl hc2))))))
    go_wp2_with fail
    go_ret
    exact ⟨ret_bool HN.out.symm, HB2.out⟩
  by_cases hm : m = 0
  · have HN := Lib.hid (vf_no (x := x) (chips := chips) (k := kd) (pl := pl) (c := ch) (m := m) (v := v) (h := hd) (.inr (.inr (.inr (.inr (.inr (.inl hm)))))))
    go_wp2_with fail
    go_ret
    exact ⟨ret_bool HN.out.symm, HB2.out⟩
  have hmb : (m == 0) = false := by simpa using hm
  by_cases ht : t = 0
  case neg =>
    have ht' : ¬ bits BinOp.andNot IntKind.u8 v m = 0 := by rw [hte]; exact ht
    have htb : (t != 0) = true := by simpa using ht
    have htc : (t == 0) = false := by simpa using ht
    have HN := Lib.hid (vf_no (x := x) (chips := chips) (k := kd) (pl := pl) (c := ch) (m := m) (v := v) (h := hd) (.inr (.inr (.inr (.inr (.inr (.inr (.inl ht'))))))))
    go_wp2_with fail
    go_ret
    exact ⟨ret_bool HN.out.symm, HB2.out⟩
  case pos =>
  subst ht
  cases hh : hd with
  | true =>
    have HN := Lib.hid (vf_yes (x := x) (chips := chips) (k := kd) (pl := pl) (c := ch) (m := m) (v := v) (h := true) HKK.out.1 HKK.out.2.1 HKK.out.2.2 hc1 hc2 hm hte (.inl rfl))
    subst hh
    go_wp2_with fail
    go_ret
    exact ⟨ret_bool HN.out.symm, HB2.out⟩
  | false =>
    subst hh
    by_cases hv : v = 0
    · have HN := Lib.hid (vf_yes (x := x) (chips := chips) (k := kd) (pl := pl) (c := ch) (m := m) (v := v) (h := false) HKK.out.1 HKK.out.2.1 HKK.out.2.2 hc1 hc2 hm hte (.inr hv))
      have hvb : (v == 0) = true := by rw [hv]; rfl
      clear hv
      go_wp2_with fail
      go_ret
      exact ⟨ret_bool HN.out.symm, HB2.out⟩
    · have HN := Lib.hid (vf_no (x := x) (chips := chips) (k := kd) (pl := pl) (c := ch) (m := m) (v := v) (h := false) (.inr (.inr (.inr (.inr (.inr (.inr (.inr ⟨rfl, hv⟩))))))))
      have hvb : (v == 0) = false := by simpa using hv
      go_wp2_with fail
      go_ret
      exact ⟨ret_bool HN.out.symm, HB2.out⟩
end Go.Proofs.YtdgkdoccllolpaaDoor.P
