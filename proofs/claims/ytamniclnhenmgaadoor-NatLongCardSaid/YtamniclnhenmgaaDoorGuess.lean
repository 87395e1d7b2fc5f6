/- nat.guess. -/
import Derived.Test.YtamniclnhenmgaaDoorDiv64
namespace Go.Proofs.YtamniclnhenmgaaDoor
open Go Go.RowKit Go.Shelf

/-- The three highest limbs of a part by the two highest of the divisor. -/
theorem guess_any (ap ad : Option Addr) (ps ds : List Int) (cp cd n : Nat) (w : World) (hp : Row w ap ps cp) (hd : Row w ad ds cd) (hlp : ps.length = n + 2 + 1) (hld : ds.length = n + 2)
    (hlimp : M.Lim ps) (hlimd : M.Lim ds) (htop : 8388608 ≤ M.el ds (n + 1)) :
    Calls Tryd.prog 118 #[.slice ap ps.length cp, .slice ad ds.length cd] w fun e w' =>
      e = .returned (.int .i64 (min ((M.el ps (n + 2) * 281474976710656 + M.el ps (n + 1) * 16777216 + M.el ps n) / (M.el ds (n + 1) * 16777216 + M.el ds n)) 16777215)) ∧ Below w.heap.size w w' := by
  obtain ⟨pb, po, rfl, c2⟩ := hp.el (n + 2) (by omega)
  have c1 := hp.cell (n + 1) (by omega)
  have c0 := hp.cell n (by omega)
  obtain ⟨db, dof, rfl, d1⟩ := hd.el (n + 1) (by omega)
  have d0 := hd.cell n (by omega)
  have b2 := hlimp.get (n + 2)
  have b1 := hlimp.get (n + 1)
  have b0 := hlimp.get n
  have f1 := hlimd.get (n + 1)
  have f0 := hlimd.get n
  have hm := hp.room
  have hm' := hp.most
  have hr := hd.room
  have hr' := hd.most
  generalize hx2 : M.el ps (n + 2) = x2 at *
  generalize hx1 : M.el ps (n + 1) = x1 at *
  generalize hx0 : M.el ps n = x0 at *
  generalize hy1 : M.el ds (n + 1) = y1 at *
  generalize hy0 : M.el ds n = y0 at *
  clear hx2 hx1 hx0 hy1 hy0 hp hd hlimp hlimd
  rw [hlp, hld]
  rw [hlp] at hm
  rw [hld] at hr
  clear hlp hld
  obtain ⟨H, hH⟩ : ∃ H, H = x2 * 16777216 + x1 := ⟨_, rfl⟩
  have e1 : bits BinOp.or IntKind.u64 (x2 * 16777216) x1 = H := by rw [or24u _ _ (by omega) (by omega) (by omega) (by omega), hH]
  obtain ⟨L, hL⟩ : ∃ L, IntKind.u64.wrap (H * 16777216) = L := ⟨_, rfl⟩
  obtain ⟨K, hK⟩ : ∃ K, K = L + x0 := ⟨_, rfl⟩
  have e2 : bits BinOp.or IntKind.u64 L x0 = K := by
    rw [IntKind.wrap_u64] at hL
    rw [show L = (H % 1099511627776) * 16777216 by omega, or24u _ _ (by omega) (by omega) (by omega) (by omega)]
    omega
  obtain ⟨T, hT⟩ : ∃ T, T = y1 * 16777216 + y0 := ⟨_, rfl⟩
  have e3 : bits BinOp.or IntKind.u64 (y1 * 16777216) y0 = T := by rw [or24u _ _ (by omega) (by omega) (by omega) (by omega), hT]
  have hL' : L = (H * 16777216) % 18446744073709551616 := by rw [← hL, IntKind.wrap_u64]
  have hUU : H / 1099511627776 * 18446744073709551616 + K = x2 * 281474976710656 + x1 * 16777216 + x0 := by omega
  have hdv := fun W : World => div64_any (H / 1099511627776) K T W (by omega) (by omega) (by omega) (by omega) (by omega) (by omega)
  rw [← hT, ← hUU]
  obtain ⟨t, ht⟩ : ∃ t, (H / 1099511627776 * 18446744073709551616 + K) / T = t := ⟨_, rfl⟩
  have ht0 : 0 ≤ t ∧ t < 33554432 := by
    rw [← ht]
    exact ⟨Int.ediv_nonneg (by omega) (by omega), Int.ediv_lt_of_lt_mul (by omega) (by omega)⟩
  rw [ht] at hdv
  rw [ht]
  have HDV := Lib.hid hdv
  clear ht hdv hUU hT hL' hK hH
  go_enter Tryd.func118, Tryd.ntmps118
  go_wp2_with fail
  go_quiet (fail)
  go_wp2_with fail
  go_quiet (fail)
  go_wp2_with fail
  refine (HDV.out _).mono ?_
  rintro e w1 ⟨⟨r, rfl⟩, hb1⟩
  have HB1 := Lib.hid hb1
  clear hb1
  go_wp2_with fail
  go_ret
  exact ⟨rfl, (belowN (Below.refl _ w) _).trans HB1.out⟩
end Go.Proofs.YtamniclnhenmgaaDoor
