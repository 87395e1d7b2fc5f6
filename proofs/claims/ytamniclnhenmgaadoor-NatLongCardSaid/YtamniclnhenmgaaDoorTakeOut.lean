/- nat.takeOut. -/
import Derived.Test.YtamniclnhenmgaaDoorAddTimes
import Derived.Test.YtamniclnhenmgaaDoorGuess
import Derived.Test.YtamniclnhenmgaaDoorTakeMath
namespace Go.Proofs.YtamniclnhenmgaaDoor
open Go Go.RowKit Go.Shelf

theorem Own.midRow {W : World} {B g cap L : Nat} {xs qs us : List Int} (h : Own W B (.slice (some ⟨g, 0, none⟩) L cap) (xs ++ qs ++ us)) {cp : Nat} (hc : qs.length ≤ cp) (hc2 : cp ≤ 9223372036854775807) : Row W (some ⟨g, xs.length, none⟩) qs cp :=
  ⟨hc, hc2, fun j hj => ⟨g, xs.length, rfl, (h.mid j hj).1⟩⟩

theorem grown_any {w W : World} {row : Option Nat} (h : Below w.heap.size w W) : w.grownBy W row := ⟨h.os, h.tape, h.output, h.size, fun k hk _ => h.block k hk⟩

def ToPost (w : World) (B g cap L n : Nat) (xs ps us ds : List Int) (e : Ending) (W : World) : Prop :=
  ∃ qs : List Int, e = .returned (.int .i64 (M.val ps / M.val ds)) ∧ qs.length = n + 2 + 1 ∧ M.Lim qs ∧ M.val qs = M.val ps % M.val ds ∧ Own W B (.slice (some ⟨g, 0, none⟩) L cap) (xs ++ qs ++ us) ∧ w.grownBy W (some g)

set_option maxRecDepth 100000 in
set_option maxHeartbeats 1000000 in
/-- **nat.takeOut** -/
theorem takeOut_any (B g cap L cp cd n : Nat) (xs ps us ds : List Int) (ad : Option Addr) (w : World) (hown : Own w B (.slice (some ⟨g, 0, none⟩) L cap) (xs ++ ps ++ us))
    (hlp : ps.length = n + 2 + 1) (hcp : n + 2 + 1 ≤ cp) (hcp2 : cp ≤ 9223372036854775807) (hd : Row w ad ds cd) (hld : ds.length = n + 2) (hne : ∀ b off, ad = some ⟨b, off, none⟩ → b ≠ g)
    (hlimp : M.Lim ps) (hlimd : M.Lim ds) (htop : 8388608 ≤ M.el ds (n + 1)) (hlt : M.val ps < M.val ds * 16777216) :
    Calls Tryd.prog 115 #[.slice (some ⟨g, xs.length, none⟩) (n + 2 + 1) cp, .slice ad (n + 2) cd] w (ToPost w B g cap L n xs ps us ds) := by
  obtain ⟨g1, g2, g3⟩ := M.guess_int hlp hld hlimp hlimd htop hlt
  have hD0 := M.val_pos_top hld hlimd htop
  have hgs := guess_any _ ad ps ds cp cd n w (hown.midRow (by omega) hcp2) hd hlp hld hlimp hlimd htop
  obtain ⟨q, hq⟩ : ∃ q, min ((M.el ps (n + 2) * 281474976710656 + M.el ps (n + 1) * 16777216 + M.el ps n) / (M.el ds (n + 1) * 16777216 + M.el ds n)) 16777215 = q := ⟨_, rfl⟩
  rw [hq] at g1 g2 g3 hgs
  rw [hlp, hld] at hgs
  have g4 : q ≤ 16777215 := by omega
  have hP0 := M.val_nonneg hlimp
  have HGS := Lib.hid hgs
  have hDl := M.val_lt hlimd
  rw [hld] at hDl
  have htz := hlimp.get (n + 2)
  have HP := Lib.hid (show M.Lim (ps.take (n + 2)) from hlimp.take _)
  have HO := Lib.hid hown
  have HD := Lib.hid hd
  have HNE := Lib.hid hne
  have HLP := Lib.hid hlp
  have HLD := Lib.hid hld
  have HLIMD := Lib.hid hlimd
  clear hgs hq hown hd hne hlp hlimp hlimd hld hlt htop
  go_enter Tryd.func115, Tryd.ntmps115
  go_wp2_with fail
  refine HGS.out.mono ?_
  rintro e w1 ⟨rfl, hb1⟩
  have HO1 := Lib.hid (HO.out.below (hb1))
  have HB1 := Lib.hid hb1
  have HD1 := Lib.hid (HD.out.below hb1)
  have hs1 := hb1.size
  clear hb1
  go_wp2_with fail
  refine (show Calls Tryd.prog 119 _ w1 _ from addTimes_any B g cap L cp cd (n + 2) xs ps us ds ad (-q) w1 HO1.out HLP.out hcp HD1.out HLD.out HNE.out HP.out (by omega) HLIMD.out (by omega)).mono ?_
  rintro e w2 ⟨ts, rfl, hlt, hlimt, hvt, hot, hgt⟩
  have HO2 := Lib.hid hot
  have hs2 := hgt.size
  have HG2 := Lib.hid (grown_trans (grown_any HB1.out) hgt)
  have HD2 := Lib.hid (HD1.out.grown hgt (fun b off e => by intro h; cases h; exact HNE.out _ _ e rfl))
  have HLT := Lib.hid hlt
  have HLIMT := Lib.hid hlimt
  have HVT := Lib.hid hvt
  clear hlt hlimt hvt hot hgt HO HO1 HD1 HB1
  by_cases hc : q = M.val ps / M.val ds
  · obtain ⟨z1, z2, z3⟩ := M.take_zero hD0 hc
    rw [← HVT.out] at z1 z2 z3
    have ez := M.top_zero HLT.out HLIMT.out z1 (Int.lt_trans z2 hDl)
    rw [ez]
    have HEZ := Lib.hid ez
    have HC := Lib.hid hc
    clear ez hc g1 g2
    go_wp2_with fail
    go_ret
    exact ⟨ts, by rw [← HC.out]; rfl, HLT.out, M.lim_of_top HLT.out HLIMT.out HEZ.out, z3, HO2.out, HG2.out⟩
  · have hc1 : q = M.val ps / M.val ds + 1 := by omega
    obtain ⟨z1, z2, z3⟩ := M.take_one hD0 hc1
    rw [← HVT.out] at z1 z2 z3
    have ez := M.top_neg HLT.out HLIMT.out z1 (by omega)
    rw [ez]
    have HEZ := Lib.hid ez
    have HC := Lib.hid hc1
    clear ez hc hc1 g1 g2
    have hq0 : 0 < q := by
      have h1 := HC.out
      have h2 := Int.ediv_nonneg hP0 (Int.le_of_lt hD0)
      omega
    go_wp2_with fail
    refine (show Calls Tryd.prog 119 _ w2 _ from addTimes_any B g cap L cp cd (n + 2) xs ts us ds ad 1 w2 HO2.out HLT.out hcp HD2.out HLD.out HNE.out HLIMT.out (by rw [HEZ.out]; omega) HLIMD.out (by omega)).mono ?_
    rintro e w3 ⟨rs, rfl, hlr, hlimr, hvr, hor, hgr⟩
    have HO3 := Lib.hid hor
    have HG3 := Lib.hid (grown_trans HG2.out hgr)
    have HLR := Lib.hid hlr
    have HLIMR := Lib.hid hlimr
    have HVR := Lib.hid hvr
    clear hlr hlimr hvr hor hgr
    go_wp2_with fail
    go_ret
    have hv : M.val rs = M.val ps % M.val ds := by rw [HVR.out, Int.one_mul, z3]
    have ez := M.top_zero HLR.out HLIMR.out (by rw [hv]; exact Int.emod_nonneg _ (by omega)) (by rw [hv]; exact Int.lt_trans (Int.emod_lt_of_pos _ hD0) hDl)
    exact ⟨rs, (show _ = Ending.returned (Value.int .i64 (q - 1)) from rfl).trans (by rw [HC.out, Int.add_sub_cancel]), HLR.out, M.lim_of_top HLR.out HLIMR.out ez, hv, HO3.out, HG3.out⟩
end Go.Proofs.YtamniclnhenmgaaDoor
