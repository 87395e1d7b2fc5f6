/- The reference's Mul, Divide, Cmp of valid fractions whose products fit. -/
import Derived.Test.YtfaggdjoogpmmaaDoorBRatValAll
import Derived.Test.YtfaggdjoogpmmaaDoorBRatBad
import Derived.Test.YtfaggdjoogpmmaaDoorB10
import Derived.Test.YtfaggdjoogpmmaaDoorBRefMul
namespace Go.Proofs.YtfaggdjoogpmmaaDoor
open Go Go.RowKit Go.Shelf

/-- Two parameters in boxes, no result in memory. -/
structure R2Pa (w : World) (a b c d : Option Addr) (ca cb cc cd x y z t : Nat) (W : World) : Prop where
  p0 : W.cell? ⟨w.heap.size, 0, none⟩ = some (.slice a (M.dig x).length ca)
  p1 : W.cell? ⟨w.heap.size, 1, none⟩ = some (.slice b (M.dig y).length cb)
  q0 : W.cell? ⟨w.heap.size + 1, 0, none⟩ = some (.slice c (M.dig z).length cc)
  q1 : W.cell? ⟨w.heap.size + 1, 1, none⟩ = some (.slice d (M.dig t).length cd)
  ra : Row W a (M.dig x) ca
  rb : Row W b (M.dig y) cb
  rc : Row W c (M.dig z) cc
  rd : Row W d (M.dig t) cd
  below : Below w.heap.size w W
section
variable {w W : World} {a b c d : Option Addr} {ca cb cc cd x y z t : Nat}
theorem R2Pa.keep {W' : World} (h : R2Pa w a b c d ca cb cc cd x y z t W) (hb : Below W.heap.size W W') : R2Pa w a b c d ca cb cc cd x y z t W' :=
  ⟨cell_below hb h.p0, cell_below hb h.p1, cell_below hb h.q0, cell_below hb h.q1, h.ra.below hb, h.rb.below hb, h.rc.below hb, h.rd.below hb, h.below.trans (hb.mono h.below.size)⟩
theorem R2Pa.alloc (h : R2Pa w a b c d ca cb cc cd x y z t W) (o : Obj) : R2Pa w a b c d ca cb cc cd x y z t (W.alloc o) := h.keep ((Below.refl _ W).alloc (Nat.le_refl _) o)
theorem R2St.start0 (hA : Row w a (M.dig x) ca) (hB : Row w b (M.dig y) cb) (hC : Row w c (M.dig z) cc) (hD : Row w d (M.dig t) cd) : R2Pa w a b c d ca cb cc cd x y z t ((w.alloc (.cells #[.slice a (M.dig x).length ca, .slice b (M.dig y).length cb] 58)).alloc (.cells #[.slice c (M.dig z).length cc, .slice d (M.dig t).length cd] 58)) := by
  obtain ⟨⟨h0, _⟩, h1, _⟩ := two_cells w (.slice a (M.dig x).length ca) (.slice b (M.dig y).length cb) 58
  obtain ⟨⟨h2, _⟩, h3, _⟩ := two_cells (w.alloc (.cells #[.slice a (M.dig x).length ca, .slice b (M.dig y).length cb] 58)) (.slice c (M.dig z).length cc) (.slice d (M.dig t).length cd) 58
  simp only [World.size_alloc] at h2 h3
  exact ⟨cell_later _ h0, cell_later _ h1, h2, h3, (hA.alloc _).alloc _, (hB.alloc _).alloc _, (hC.alloc _).alloc _, (hD.alloc _).alloc _, ((Below.refl _ w).alloc (Nat.le_refl _) _).alloc (by simp) _⟩
end

set_option maxRecDepth 100000 in
set_option maxHeartbeats 2000000 in
theorem rratMul_fit {u v : Value} {x y z t : Nat} {w : World} (hu : RatV w u x y) (hv : RatV w v z t) (hx : (M.dig x).length ≤ 200) (hy : (M.dig y).length ≤ 200) (hz : (M.dig z).length ≤ 200) (ht : (M.dig t).length ≤ 200) (hy0 : 0 < y) (ht0 : 0 < t) (hg1 : Nat.gcd x y = 1) (hg2 : Nat.gcd z t = 1) (h1 : (M.dig (x * z)).length ≤ 200) (h2 : (M.dig (y * t)).length ≤ 200) :
    Calls Tryd.prog 89 #[u, v] w fun e W' => (∃ r, e = .returned (.tuple #[r, .int .i64 0]) ∧ RatV W' r (x * z / Nat.gcd (x * z) (y * t)) (y * t / Nat.gcd (x * z) (y * t))) ∧ Below w.heap.size w W' := by
  have HPOS := Lib.hid (Nat.mul_pos hy0 ht0)
  obtain ⟨a, ca, b, cb, rfl, hA, hB⟩ := hu
  obtain ⟨c, cc, d, cd, rfl, hC, hD⟩ := hv
  have HS := Lib.hid (R2St.start hA hB hC hD)
  have HV1 := Lib.hid (RVd.of hx hy hy0 hg1)
  have HV2 := Lib.hid (RVd.of hz ht ht0 hg2)
  clear hA hB hC hD hg1 hg2
  go_enter Tryd.func89, Tryd.ntmps89
  have p0 := HS.out.p0
  have p1 := HS.out.p1
  go_wp2_with fail
  generalize (((w.alloc (.cells #[.slice a (M.dig x).length ca, .slice b (M.dig y).length cb] 58)).alloc (.cells #[.slice c (M.dig z).length cc, .slice d (M.dig t).length cd] 58)).alloc (.cells #[.slice none 0 0, .slice none 0 0] 58)) = w3 at *
  refine (rratValid_yes a b ca cb (M.dig x) (M.dig y) _ HS.out.ra HS.out.rb HV1.out).mono ?_
  rintro e w4 ⟨rfl, hb⟩
  replace HS := Lib.hid (HS.out.keep hb)
  clear hb p0 p1
  have q0 := HS.out.q0
  have q1 := HS.out.q1
  go_wp2_with fail
  refine (rratValid_yes c d cc cd (M.dig z) (M.dig t) _ HS.out.rc HS.out.rd HV2.out).mono ?_
  rintro e w5 ⟨rfl, hb⟩
  replace HS := Lib.hid (HS.out.keep hb)
  clear hb q0 q1
  have p0 := HS.out.p0
  have q0 := HS.out.q0
  go_wp2_with fail
  refine (rMul_any a c ca cc x z _ hx hz HS.out.ra HS.out.rc).mono ?_
  rintro e w6 ⟨hres, hb⟩
  obtain ⟨v, rfl, s_P, c_P, rfl, hr⟩ := hres.ok h1
  clear hres p0 q0
  replace HS := Lib.hid (HS.out.keep hb)
  replace HS := Lib.hid (HS.out.alloc (.cells #[.slice s_P (M.dig (x * z)).length c_P] 24))
  have V_P := Lib.hid (Var.new hr)
  clear hr hb
  have p1 := HS.out.p1
  have q1 := HS.out.q1
  go_wp2_with fail
  refine (rMul_any b d cb cd y t _ hy ht HS.out.rb HS.out.rd).mono ?_
  rintro e w7 ⟨hres, hb⟩
  obtain ⟨v, rfl, s_Q, c_Q, rfl, hr⟩ := hres.ok h2
  clear hres p1 q1
  replace HS := Lib.hid (HS.out.keep hb)
  replace V_P := Lib.hid (V_P.out.below hb)
  replace HS := Lib.hid (HS.out.alloc (.cells #[.slice s_Q (M.dig (y * t)).length c_Q] 24))
  replace V_P := Lib.hid (V_P.out.alloc (.cells #[.slice s_Q (M.dig (y * t)).length c_Q] 24))
  have V_Q := Lib.hid (Var.new hr)
  clear hr hb
  have e1 := V_P.out.cell
  have e2 := V_Q.out.cell
  go_wp2_with fail
  refine (rmake_pos s_P s_Q c_P c_Q (x * z) (y * t) _ HPOS.out h1 h2 V_P.out.row V_Q.out.row).mono ?_
  rintro e w9 ⟨⟨v, rfl, hv⟩, hb⟩
  obtain ⟨a7, c7, b7, d7, rfl, hr1, hr2⟩ := hv.val
  replace HS := Lib.hid (HS.out.keep hb)
  have HR := Lib.hid (HS.out.done hr1 hr2)
  have r0 := HS.out.r0
  have r1 := HS.out.r1
  have f0 := HS.out.f0
  have f1 := HS.out.f1
  clear hv hr1 hr2 hb HS e1 e2
  go_wp2_with fail
  refine bodyPost_ret (v := .tuple #[.agg #[.slice a7 (M.dig ((x * z) / Nat.gcd (x * z) (y * t))).length c7, .slice b7 (M.dig ((y * t) / Nat.gcd (x * z) (y * t))).length d7], .int .i64 0]) (by simp [results, Tryd.results89, go_sem, r0, r1]) rfl ⟨⟨_, rfl, HR.out.1⟩, HR.out.2⟩

set_option maxRecDepth 100000 in
set_option maxHeartbeats 2000000 in
theorem rratDiv_fit {u v : Value} {x y z t : Nat} {w : World} (hu : RatV w u x y) (hv : RatV w v z t) (hx : (M.dig x).length ≤ 200) (hy : (M.dig y).length ≤ 200) (hz : (M.dig z).length ≤ 200) (ht : (M.dig t).length ≤ 200) (hy0 : 0 < y) (ht0 : 0 < t) (hg1 : Nat.gcd x y = 1) (hg2 : Nat.gcd z t = 1) (hz0 : 0 < z) (h1 : (M.dig (x * t)).length ≤ 200) (h2 : (M.dig (y * z)).length ≤ 200) :
    Calls Tryd.prog 90 #[u, v] w fun e W' => (∃ r, e = .returned (.tuple #[r, .int .i64 0]) ∧ RatV W' r (x * t / Nat.gcd (x * t) (y * z)) (y * z / Nat.gcd (x * t) (y * z))) ∧ Below w.heap.size w W' := by
  have HPOS := Lib.hid (Nat.mul_pos hy0 hz0)
  obtain ⟨a, ca, b, cb, rfl, hA, hB⟩ := hu
  obtain ⟨c, cc, d, cd, rfl, hC, hD⟩ := hv
  have HS := Lib.hid (R2St.start hA hB hC hD)
  have HV1 := Lib.hid (RVd.of hx hy hy0 hg1)
  have HV2 := Lib.hid (RVd.of hz ht ht0 hg2)
  clear hA hB hC hD hg1 hg2
  go_enter Tryd.func90, Tryd.ntmps90
  have p0 := HS.out.p0
  have p1 := HS.out.p1
  go_wp2_with fail
  generalize (((w.alloc (.cells #[.slice a (M.dig x).length ca, .slice b (M.dig y).length cb] 58)).alloc (.cells #[.slice c (M.dig z).length cc, .slice d (M.dig t).length cd] 58)).alloc (.cells #[.slice none 0 0, .slice none 0 0] 58)) = w3 at *
  refine (rratValid_yes a b ca cb (M.dig x) (M.dig y) _ HS.out.ra HS.out.rb HV1.out).mono ?_
  rintro e w4 ⟨rfl, hb⟩
  replace HS := Lib.hid (HS.out.keep hb)
  clear hb p0 p1
  have q0 := HS.out.q0
  have q1 := HS.out.q1
  go_wp2_with fail
  refine (rratValid_yes c d cc cd (M.dig z) (M.dig t) _ HS.out.rc HS.out.rd HV2.out).mono ?_
  rintro e w5 ⟨rfl, hb⟩
  replace HS := Lib.hid (HS.out.keep hb)
  clear hb q0 q1
  have hzl : ¬ M.dig z = [] := fun e => by have := M.dig_nil.1 e; omega
  have hzb : (((M.dig z).length : Int) == 0) = false := beq_eq_false_iff_ne.2 (by intro e; exact hzl (List.length_eq_zero_iff.1 (by omega)))
  have p0 := HS.out.p0
  have q1 := HS.out.q1
  have q0 := HS.out.q0
  go_wp2_with fail
  clear q0
  refine (rMul_any a d ca cd x t _ hx ht HS.out.ra HS.out.rd).mono ?_
  rintro e w6 ⟨hres, hb⟩
  obtain ⟨v, rfl, s_P, c_P, rfl, hr⟩ := hres.ok h1
  clear hres p0 q1
  replace HS := Lib.hid (HS.out.keep hb)
  replace HS := Lib.hid (HS.out.alloc (.cells #[.slice s_P (M.dig (x * t)).length c_P] 24))
  have V_P := Lib.hid (Var.new hr)
  clear hr hb
  clear hzl hzb
  have p1 := HS.out.p1
  have q0 := HS.out.q0
  go_wp2_with fail
  refine (rMul_any b c cb cc y z _ hy hz HS.out.rb HS.out.rc).mono ?_
  rintro e w7 ⟨hres, hb⟩
  obtain ⟨v, rfl, s_Q, c_Q, rfl, hr⟩ := hres.ok h2
  clear hres p1 q0
  replace HS := Lib.hid (HS.out.keep hb)
  replace V_P := Lib.hid (V_P.out.below hb)
  replace HS := Lib.hid (HS.out.alloc (.cells #[.slice s_Q (M.dig (y * z)).length c_Q] 24))
  replace V_P := Lib.hid (V_P.out.alloc (.cells #[.slice s_Q (M.dig (y * z)).length c_Q] 24))
  have V_Q := Lib.hid (Var.new hr)
  clear hr hb
  have e1 := V_P.out.cell
  have e2 := V_Q.out.cell
  go_wp2_with fail
  refine (rmake_pos s_P s_Q c_P c_Q (x * t) (y * z) _ HPOS.out h1 h2 V_P.out.row V_Q.out.row).mono ?_
  rintro e w9 ⟨⟨v, rfl, hv⟩, hb⟩
  obtain ⟨a7, c7, b7, d7, rfl, hr1, hr2⟩ := hv.val
  replace HS := Lib.hid (HS.out.keep hb)
  have HR := Lib.hid (HS.out.done hr1 hr2)
  have r0 := HS.out.r0
  have r1 := HS.out.r1
  have f0 := HS.out.f0
  have f1 := HS.out.f1
  clear hv hr1 hr2 hb HS e1 e2
  go_wp2_with fail
  refine bodyPost_ret (v := .tuple #[.agg #[.slice a7 (M.dig ((x * t) / Nat.gcd (x * t) (y * z))).length c7, .slice b7 (M.dig ((y * z) / Nat.gcd (x * t) (y * z))).length d7], .int .i64 0]) (by simp [results, Tryd.results90, go_sem, r0, r1]) rfl ⟨⟨_, rfl, HR.out.1⟩, HR.out.2⟩

set_option maxRecDepth 100000 in
set_option maxHeartbeats 2000000 in
theorem rratDiv_zero {u v : Value} {x y z t : Nat} {w : World} (hu : RatV w u x y) (hv : RatV w v z t) (hx : (M.dig x).length ≤ 200) (hy : (M.dig y).length ≤ 200) (hz : (M.dig z).length ≤ 200) (ht : (M.dig t).length ≤ 200) (hy0 : 0 < y) (ht0 : 0 < t) (hg1 : Nat.gcd x y = 1) (hg2 : Nat.gcd z t = 1) (hz0 : z = 0) :
    Calls Tryd.prog 90 #[u, v] w fun e W' => e = .returned (.tuple #[.agg #[.slice none 0 0, .slice none 0 0], .int .i64 4]) ∧ Below w.heap.size w W' := by
  have HZ0 := Lib.hid hz0
  clear hz0
  obtain ⟨a, ca, b, cb, rfl, hA, hB⟩ := hu
  obtain ⟨c, cc, d, cd, rfl, hC, hD⟩ := hv
  have HS := Lib.hid (R2St.start hA hB hC hD)
  have HV1 := Lib.hid (RVd.of hx hy hy0 hg1)
  have HV2 := Lib.hid (RVd.of hz ht ht0 hg2)
  clear hA hB hC hD hg1 hg2
  go_enter Tryd.func90, Tryd.ntmps90
  have p0 := HS.out.p0
  have p1 := HS.out.p1
  go_wp2_with fail
  generalize (((w.alloc (.cells #[.slice a (M.dig x).length ca, .slice b (M.dig y).length cb] 58)).alloc (.cells #[.slice c (M.dig z).length cc, .slice d (M.dig t).length cd] 58)).alloc (.cells #[.slice none 0 0, .slice none 0 0] 58)) = w3 at *
  refine (rratValid_yes a b ca cb (M.dig x) (M.dig y) _ HS.out.ra HS.out.rb HV1.out).mono ?_
  rintro e w4 ⟨rfl, hb⟩
  replace HS := Lib.hid (HS.out.keep hb)
  clear hb p0 p1
  have q0 := HS.out.q0
  have q1 := HS.out.q1
  go_wp2_with fail
  refine (rratValid_yes c d cc cd (M.dig z) (M.dig t) _ HS.out.rc HS.out.rd HV2.out).mono ?_
  rintro e w5 ⟨rfl, hb⟩
  replace HS := Lib.hid (HS.out.keep hb)
  clear hb q0 q1
  have q0 := HS.out.q0
  rw [HZ0.out] at q0
  simp only [M.dig_zero, List.length_nil] at q0
  have r0 := HS.out.r0
  have r1 := HS.out.r1
  have f0 := HS.out.f0
  have f1 := HS.out.f1
  have HB := Lib.hid HS.out.below
  clear HS HV1 HV2
  go_wp2_with fail
  refine bodyPost_ret (v := .tuple #[.agg #[.slice none 0 0, .slice none 0 0], .int .i64 4]) (by simp [results, Tryd.results90, go_sem, r0, r1]) rfl ⟨rfl, (HB.out.setCell (p := ⟨w.heap.size + 1 + 1, 0, none⟩) (by show _ ≤ w.heap.size + 1 + 1; omega) _).setCell (p := ⟨w.heap.size + 1 + 1, 1, none⟩) (by show _ ≤ w.heap.size + 1 + 1; omega) _⟩

set_option maxRecDepth 100000 in
set_option maxHeartbeats 2000000 in
theorem rratCmp_fit {u v : Value} {x y z t : Nat} {w : World} (hu : RatV w u x y) (hv : RatV w v z t) (hx : (M.dig x).length ≤ 200) (hy : (M.dig y).length ≤ 200) (hz : (M.dig z).length ≤ 200) (ht : (M.dig t).length ≤ 200) (hy0 : 0 < y) (ht0 : 0 < t) (hg1 : Nat.gcd x y = 1) (hg2 : Nat.gcd z t = 1) (h1 : (M.dig (x * t)).length ≤ 200) (h2 : (M.dig (z * y)).length ≤ 200) :
    Calls Tryd.prog 91 #[u, v] w fun e W' => e = .returned (.tuple #[.int .i64 (Lib.compareInt ((x * t : Nat) : Int) ((z * y : Nat) : Int)), .int .i64 0]) ∧ Below w.heap.size w W' := by
  obtain ⟨a, ca, b, cb, rfl, hA, hB⟩ := hu
  obtain ⟨c, cc, d, cd, rfl, hC, hD⟩ := hv
  have HS := Lib.hid (R2St.start0 hA hB hC hD)
  have HV1 := Lib.hid (RVd.of hx hy hy0 hg1)
  have HV2 := Lib.hid (RVd.of hz ht ht0 hg2)
  clear hA hB hC hD hg1 hg2
  go_enter Tryd.func91, Tryd.ntmps91
  have p0 := HS.out.p0
  have p1 := HS.out.p1
  go_wp2_with fail
  generalize ((w.alloc (.cells #[.slice a (M.dig x).length ca, .slice b (M.dig y).length cb] 58)).alloc (.cells #[.slice c (M.dig z).length cc, .slice d (M.dig t).length cd] 58)) = w3 at *
  refine (rratValid_yes a b ca cb (M.dig x) (M.dig y) _ HS.out.ra HS.out.rb HV1.out).mono ?_
  rintro e w4 ⟨rfl, hb⟩
  replace HS := Lib.hid (HS.out.keep hb)
  clear hb p0 p1
  have q0 := HS.out.q0
  have q1 := HS.out.q1
  go_wp2_with fail
  refine (rratValid_yes c d cc cd (M.dig z) (M.dig t) _ HS.out.rc HS.out.rd HV2.out).mono ?_
  rintro e w5 ⟨rfl, hb⟩
  replace HS := Lib.hid (HS.out.keep hb)
  clear hb q0 q1
  have p0 := HS.out.p0
  have q1 := HS.out.q1
  go_wp2_with fail
  refine (rMul_any a d ca cd x t _ hx ht HS.out.ra HS.out.rd).mono ?_
  rintro e w6 ⟨hres, hb⟩
  obtain ⟨v, rfl, s_P, c_P, rfl, hr⟩ := hres.ok h1
  clear hres p0 q1
  replace HS := Lib.hid (HS.out.keep hb)
  replace HS := Lib.hid (HS.out.alloc (.cells #[.slice s_P (M.dig (x * t)).length c_P] 24))
  have V_P := Lib.hid (Var.new hr)
  clear hr hb
  have q0 := HS.out.q0
  have p1 := HS.out.p1
  go_wp2_with fail
  refine (rMul_any c b cc cb z y _ hz hy HS.out.rc HS.out.rb).mono ?_
  rintro e w7 ⟨hres, hb⟩
  obtain ⟨v, rfl, s_Q, c_Q, rfl, hr⟩ := hres.ok h2
  clear hres q0 p1
  replace HS := Lib.hid (HS.out.keep hb)
  replace V_P := Lib.hid (V_P.out.below hb)
  replace HS := Lib.hid (HS.out.alloc (.cells #[.slice s_Q (M.dig (z * y)).length c_Q] 24))
  replace V_P := Lib.hid (V_P.out.alloc (.cells #[.slice s_Q (M.dig (z * y)).length c_Q] 24))
  have V_Q := Lib.hid (Var.new hr)
  clear hr hb
  have e1 := V_P.out.cell
  have e2 := V_Q.out.cell
  go_wp2_with fail
  refine (rcmp_any s_P s_Q c_P c_Q (x * t) (z * y) _ V_P.out.row V_Q.out.row).mono ?_
  rintro e w9 ⟨rfl, hb⟩
  have HB := Lib.hid (HS.out.below.trans (hb.mono HS.out.below.size))
  clear hb HS e1 e2
  go_wp2_with fail
  go_ret2
  exact ⟨rfl, HB.out⟩

end Go.Proofs.YtfaggdjoogpmmaaDoor
