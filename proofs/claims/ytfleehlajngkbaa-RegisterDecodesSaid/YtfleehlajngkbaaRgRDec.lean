/- ref11.Decode. -/
import Derived.Test.YtfleehlajngkbaaRgDec
import Derived.Test.YtfleehlajngkbaaPRef1
namespace Go.Proofs.Ytfleehlajngkbaa.RG
open Go Go.RowKit Go.Shelf
open G P
theorem field_any (r : V) (k : Nat) (hk : k < 6) (w : World) :
    Calls Try.prog 23 #[.int .u64 (r.toNat : Int), .int .u64 (k : Int)] w fun e W => e = .returned (.int .i64 (fld r (4 * k) 4 : Int)) ∧ w = W := by
  have hw : IntKind.u64.wrap (4 * (k : Int)) = 4 * (k : Int) := by rw [IntKind.wrap_u64]; omega
  have hf := fld_and r (4 * k) 4 (by omega) (by decide)
  have hl := fld_lt r (4 * k) 4
  have hf2 : bits BinOp.and IntKind.u64 ((r.toNat : Int) / 2 ^ (4 * k)) 15 = (fld r (4 * k) 4 : Int) := hf
  have hw4 : wrap64 (fld r (4 * k) 4 : Int) = (fld r (4 * k) 4 : Int) := by unfold wrap64; omega
  have hmin : min (4 * k) 64 = 4 * k := by omega
  clear hf hl
  go_enter Try.func23, Try.ntmps23
  go_wp2_with fail
  go_ret
  exact ⟨ret_int hw4, rfl⟩
theorem lo_and (L : List V) : bits BinOp.and IntKind.u64 ((el L 1).toNat : Int) 4294967295 = (decLo L : Int) := by
  have := fld_and (el L 1) 0 32 (by decide) (by decide)
  rw [show (2 : Int) ^ 0 = 1 from rfl, Int.ediv_one] at this
  exact this
theorem hi_shr (L : List V) : ((el L 1).toNat : Int) / 4294967296 = (decHi L : Int) := by
  unfold decHi fld
  have := V.lt (el L 1)
  simp only [Nat.reducePow]
  omega
theorem lo_wrap (L : List V) : IntKind.i64.wrap (decLo L : Int) = (decLo L : Int) := by
  have := fld_lt (el L 1) 0 32
  have e : decLo L = fld (el L 1) 0 32 := rfl
  rw [e, IntKind.wrap_i64]
  omega
theorem hi_wrap (L : List V) : IntKind.i64.wrap (decHi L : Int) = (decHi L : Int) := by
  have := fld_lt (el L 1) 32 32
  have e : decHi L = fld (el L 1) 32 32 := rfl
  rw [e, IntKind.wrap_i64]
  omega
theorem n_and (L : List V) : bits BinOp.and IntKind.u64 (((el L 0).toNat : Int) / 16777216) 255 = (decN L : Int) := fld_and (el L 0) 24 8 (by decide) (by decide)
theorem n_le (L : List V) : decN L ≤ 255 := by
  have := fld_lt (el L 0) 24 8
  have e : decN L = fld (el L 0) 24 8 := rfl
  rw [e]
  omega
theorem n_wrap (L : List V) : wrap64 (decN L : Int) = (decN L : Int) := by
  have := n_le L
  unfold wrap64; omega
theorem map_new {W : World} {x : Nat → Int} {lo hi y0 y1 y2 y3 y4 y5 : Int} (h6 : Is6 x y0 y1 y2 y3 y4 y5) :
    Value.pointer (some ⟨W.heap.size, 0, none⟩) = .pointer (some ⟨W.heap.size, 0, none⟩) ∧ Mp (W.alloc (.cells #[.int .i64 y0, .int .i64 y1, .int .i64 y2, .int .i64 y3, .int .i64 y4, .int .i64 y5, .slice none 0 0, .int .i64 lo, .int .i64 hi] 34)).drew W.heap.size x (.slice none 0 0) lo hi ∧
      Below W.heap.size W (W.alloc (.cells #[.int .i64 y0, .int .i64 y1, .int .i64 y2, .int .i64 y3, .int .i64 y4, .int .i64 y5, .slice none 0 0, .int .i64 lo, .int .i64 hi] 34)).drew := by
  obtain ⟨rfl, rfl, rfl, rfl, rfl, rfl⟩ := h6
  exact ⟨rfl, (Mp.new W x _ lo hi).drewN 1, belowN ((Below.refl _ W).alloc (Nat.le_refl _) _) 1⟩
/-- What has been read, beside the box of the result. -/
structure RD (w : World) (p : Nat) (L : List V) (g : Nat) (a : Option Addr) (W : World) : Prop where
  box : Mp W g (decX L) (.slice none 0 0) (decLo L : Int) (decHi L : Int)
  zero : Mp W p (fun _ => 0) (.slice none 0 0) 0 0
  bel : Below w.heap.size w W
  lt : p < g
theorem RD.below {w W W' : World} {p g : Nat} {L : List V} {a : Option Addr} (h : RD w p L g a W) (hb : Below W.heap.size W W') : RD w p L g a W' := ⟨h.box.below hb, h.zero.below hb, h.bel.trans (hb.mono h.bel.size), h.lt⟩
set_option maxRecDepth 100000 in
set_option maxHeartbeats 2000000 in
theorem rdecode_any (a : Option Addr) (L : List V) (c : Nat) (w : World) (hR : Row w a L c) (hl : L.length ≤ 1000) :
    Calls Try.prog 13 #[.slice a L.length c] w (DecR w L) := by
  have hroom := hR.room
  have hmost := hR.most
  have hz := Mp.zero w
  have HB0 := Lib.hid ((Below.refl _ w).alloc (Nat.le_refl _) (.cells #[.int .i64 0, .int .i64 0, .int .i64 0, .int .i64 0, .int .i64 0, .int .i64 0, .slice none 0 0, .int .i64 0, .int .i64 0] 34))
  obtain ⟨p, hp⟩ : ∃ p, w.heap.size = p := ⟨_, rfl⟩
  obtain ⟨w0, hw0⟩ : ∃ w0, w.alloc (.cells #[.int .i64 0, .int .i64 0, .int .i64 0, .int .i64 0, .int .i64 0, .int .i64 0, .slice none 0 0, .int .i64 0, .int .i64 0] 34) = w0 := ⟨_, rfl⟩
  rw [hw0] at HB0 hz
  rw [hp] at hz
  have HR := Lib.hid (hR.below HB0.out)
  have HZ := Lib.hid hz
  have HPZ := Lib.hid hp
  clear hR hz
  by_cases h2 : L.length < 2
  · have HE := Lib.hid (show decE L = 11 by unfold decE; rw [if_pos h2])
    obtain ⟨c0, c1, c2, c3, c4, c5, c6, c7, c8⟩ := HZ.out.all
    obtain ⟨f0, f1, f2, f3, f4, f5, f6, f7, f8⟩ := HZ.out.frees
    go_enter Try.func13, Try.ntmps13
    go_wp2_with fail
    have hq9 := put9_map HZ.out (fun _ => 0) (.slice none 0 0) 0 0
    obtain ⟨k0, k1, k2, k3, k4, k5, k6, k7, k8⟩ := hq9.all
    have hfin := put9_below HB0.out (show w.heap.size ≤ p from Nat.le_of_eq HPZ.out) (fun _ => 0) (.slice none 0 0) 0 0
    unfold put9 at k0 k1 k2 k3 k4 k5 k6 k7 k8 hfin
    exact bodyPost_ret (v := .tuple #[.agg #[.int .i64 0, .int .i64 0, .int .i64 0, .int .i64 0, .int .i64 0, .int .i64 0, .slice none 0 0, .int .i64 0, .int .i64 0], .int .i64 11]) (by simp [results, Try.results13, go_sem, k0, k1, k2, k3, k4, k5, k6, k7, k8]) rfl (DecR.no HE.out (by decide) hfin)
  · obtain ⟨b, off, rfl, hc0⟩ := HR.out.elV 0 (by omega)
    have hc1 := HR.out.cellV 1 (by omega)
    rw [Nat.add_zero] at hc0
    by_cases hf : (el L 0).toNat / 4294967296 = 1291845632
    · have hq : (((el L 0).toNat : Int) / 4294967296 != 1291845632) = false := by rw [bne_eq_false_iff_eq]; omega
      have HF := Lib.hid hf
      have hi1 : (1 : Int) < (L.length : Int) := by omega
      have hi2 : 1 < L.length := by omega
      have hlo := lo_and L
      have hhi := hi_shr L
      have hwl := lo_wrap L
      have hwh := hi_wrap L
      have HF0 := Lib.hid (fun W => (show Calls Try.prog 23 #[.int .u64 ((el L 0).toNat : Int), .int .u64 0] W fun e W' => e = .returned (.int .i64 (fld (el L 0) 0 4 : Int)) ∧ W = W' from field_any (el L 0) 0 (by decide) W))
      have HF1 := Lib.hid (fun W => (show Calls Try.prog 23 #[.int .u64 ((el L 0).toNat : Int), .int .u64 1] W fun e W' => e = .returned (.int .i64 (fld (el L 0) 4 4 : Int)) ∧ W = W' from field_any (el L 0) 1 (by decide) W))
      have HF2 := Lib.hid (fun W => (show Calls Try.prog 23 #[.int .u64 ((el L 0).toNat : Int), .int .u64 2] W fun e W' => e = .returned (.int .i64 (fld (el L 0) 8 4 : Int)) ∧ W = W' from field_any (el L 0) 2 (by decide) W))
      have HF3 := Lib.hid (fun W => (show Calls Try.prog 23 #[.int .u64 ((el L 0).toNat : Int), .int .u64 3] W fun e W' => e = .returned (.int .i64 (fld (el L 0) 12 4 : Int)) ∧ W = W' from field_any (el L 0) 3 (by decide) W))
      have HF4 := Lib.hid (fun W => (show Calls Try.prog 23 #[.int .u64 ((el L 0).toNat : Int), .int .u64 4] W fun e W' => e = .returned (.int .i64 (fld (el L 0) 16 4 : Int)) ∧ W = W' from field_any (el L 0) 4 (by decide) W))
      have HF5 := Lib.hid (fun W => (show Calls Try.prog 23 #[.int .u64 ((el L 0).toNat : Int), .int .u64 5] W fun e W' => e = .returned (.int .i64 (fld (el L 0) 20 4 : Int)) ∧ W = W' from field_any (el L 0) 5 (by decide) W))
      clear hf
      go_enter Try.func13, Try.ntmps13
      have HR0 := Lib.hid HR.out
      go_upto_region 6 with fail
      go_cut [5] (fun s6 wx => s6 = .pointer (some ⟨w0.heap.size, 0, none⟩) ∧ Mp wx w0.heap.size (decX L) (.slice none 0 0) (decLo L : Int) (decHi L : Int) ∧ Below w0.heap.size w0 wx)
      case first =>
        have hc1' : w0.drew.cell? ⟨b, off + 1, none⟩ = some (.int .u64 ((el L 1).toNat : Int)) := hc1
        go_region_held3 (fun W' => W'.cell? ⟨b, off + 1, none⟩ = some (.int .u64 ((el L 1).toNat : Int))) (first | exact hc1' | (go_keep; done)) (first
          | ((try go_simp); go_at_call 23; (with_reducible refine (HF0.out _).mono ?_); go_must (rintro e v ⟨rfl, hv⟩; obtain rfl := hv))
          | ((try go_simp); go_at_call 23; (with_reducible refine (HF1.out _).mono ?_); go_must (rintro e v ⟨rfl, hv⟩; obtain rfl := hv))
          | ((try go_simp); go_at_call 23; (with_reducible refine (HF2.out _).mono ?_); go_must (rintro e v ⟨rfl, hv⟩; obtain rfl := hv))
          | ((try go_simp); go_at_call 23; (with_reducible refine (HF3.out _).mono ?_); go_must (rintro e v ⟨rfl, hv⟩; obtain rfl := hv))
          | ((try go_simp); go_at_call 23; (with_reducible refine (HF4.out _).mono ?_); go_must (rintro e v ⟨rfl, hv⟩; obtain rfl := hv))
          | ((try go_simp); go_at_call 23; (with_reducible refine (HF5.out _).mono ?_); go_must (rintro e v ⟨rfl, hv⟩; obtain rfl := hv)))
        all_goals (
          go_wp2_with fail
          go_meet
          with_reducible exact map_new (dec_is6 L))
      case rest =>
        clear hc0 hc1 hlo hhi hwl hwh HF0 HF1 HF2 HF3 HF4 HF5 hw0
        obtain ⟨rfl, hm, hb⟩ := hcut
        obtain ⟨g, hg⟩ : ∃ g, w0.heap.size = g := ⟨_, rfl⟩
        have hd : RD w p L g none wc := ⟨by rw [← hg]; exact hm, HZ.out.below hb, HB0.out.trans (hb.mono HB0.out.size), by rw [← hg]; exact HZ.out.lt⟩
        have HR1 := Lib.hid (HR0.out.below hb)
        rw [hg]
        have HD := Lib.hid hd
        have HV := Lib.hid (fun W => rvalid_any (decX L) W)
        obtain ⟨c0, c1, c2, c3, c4, c5, c6, c7, c8⟩ := hd.box.all
        clear hm hb hd hg HZ HB0 HR HR0
        have hbr : 2 ≤ L.length := by omega
        go_wp2_with fail
        refine (HV.out _).mono ?_
        rintro e w2 ⟨rfl, hb2⟩
        have hd2 := HD.out.below hb2
        have hr2 := HR1.out.below hb2
        clear HD HR1 hb2 c0 c1 c2 c3 c4 c5 c6 c7 c8
        have HD := Lib.hid hd2
        have HR := Lib.hid hr2
        obtain ⟨c0, c1, c2, c3, c4, c5, c6, c7, c8⟩ := hd2.box.all
        obtain ⟨d0, d1, d2, d3, d4, d5, d6, d7, d8⟩ := hd2.zero.all
        obtain ⟨f0, f1, f2, f3, f4, f5, f6, f7, f8⟩ := hd2.zero.frees
        obtain ⟨q0, q1, q2, q3, q4, q5, q6, q7, q8⟩ := hd2.box.frees
        clear hd2 hr2
        have hna := n_and L
        have hnw := n_wrap L
        have hN := n_le L
        cases hok : okB (decX L) with
        | false =>
          have HE := Lib.hid (show decE L = 1 by unfold decE; rw [if_neg (show ¬ L.length < 2 by omega), if_neg (fun h => h HF.out), if_pos hok])
          clear hok
          go_wp2_with fail
          have hq9 := put9_map HD.out.zero (fun _ => 0) (.slice none 0 0) 0 0
          obtain ⟨k0, k1, k2, k3, k4, k5, k6, k7, k8⟩ := hq9.all
          have hfin := put9_below HD.out.bel (show w.heap.size ≤ p from Nat.le_of_eq HPZ.out) (fun _ => 0) (.slice none 0 0) 0 0
          unfold put9 at k0 k1 k2 k3 k4 k5 k6 k7 k8 hfin
          exact bodyPost_ret (v := .tuple #[.agg #[.int .i64 0, .int .i64 0, .int .i64 0, .int .i64 0, .int .i64 0, .int .i64 0, .slice none 0 0, .int .i64 0, .int .i64 0], .int .i64 1]) (by simp [results, Try.results13, go_sem, k0, k1, k2, k3, k4, k5, k6, k7, k8]) rfl (DecR.no HE.out (by decide) hfin)
        | true =>
          have HOK := Lib.hid (show ¬ okB (decX L) = false by rw [hok]; simp)
          clear hok
          have hw2 : wrap64 (2 + (decN L : Int)) = 2 + (decN L : Int) := by unfold wrap64; omega
          by_cases g1 : 12 < decN L
          · have HE := Lib.hid (show decE L = 7 by unfold decE; rw [if_neg (show ¬ L.length < 2 by omega), if_neg (fun h => h HF.out), if_neg HOK.out, if_pos (.inl g1)])
            have g1' : (12 : Int) < (decN L : Int) := by omega
            go_wp2_with fail
            have hq9 := put9_map HD.out.zero (fun _ => 0) (.slice none 0 0) 0 0
            obtain ⟨k0, k1, k2, k3, k4, k5, k6, k7, k8⟩ := hq9.all
            have hfin := put9_below HD.out.bel (show w.heap.size ≤ p from Nat.le_of_eq HPZ.out) (fun _ => 0) (.slice none 0 0) 0 0
            unfold put9 at k0 k1 k2 k3 k4 k5 k6 k7 k8 hfin
            exact bodyPost_ret (v := .tuple #[.agg #[.int .i64 0, .int .i64 0, .int .i64 0, .int .i64 0, .int .i64 0, .int .i64 0, .slice none 0 0, .int .i64 0, .int .i64 0], .int .i64 7]) (by simp [results, Try.results13, go_sem, k0, k1, k2, k3, k4, k5, k6, k7, k8]) rfl (DecR.no HE.out (by decide) hfin)
          · have g1' : ¬ (12 : Int) < (decN L : Int) := by omega
            by_cases g2 : L.length = 2 + decN L
            · have hne : ((L.length : Int) != 2 + (decN L : Int)) = false := by rw [bne_eq_false_iff_eq]; omega
              by_cases g3 : 1048576 < decLo L
              · have HE := Lib.hid (show decE L = 2 by unfold decE; rw [if_neg (show ¬ L.length < 2 by omega), if_neg (fun h => h HF.out), if_neg HOK.out, if_neg (by omega), if_pos (.inl g3)])
                have g3' : (1048576 : Int) < (decLo L : Int) := by omega
                clear g2
                go_wp2_with fail
                have hq9 := put9_map HD.out.zero (fun _ => 0) (.slice none 0 0) 0 0
                obtain ⟨k0, k1, k2, k3, k4, k5, k6, k7, k8⟩ := hq9.all
                have hfin := put9_below HD.out.bel (show w.heap.size ≤ p from Nat.le_of_eq HPZ.out) (fun _ => 0) (.slice none 0 0) 0 0
                unfold put9 at k0 k1 k2 k3 k4 k5 k6 k7 k8 hfin
                exact bodyPost_ret (v := .tuple #[.agg #[.int .i64 0, .int .i64 0, .int .i64 0, .int .i64 0, .int .i64 0, .int .i64 0, .slice none 0 0, .int .i64 0, .int .i64 0], .int .i64 2]) (by simp [results, Try.results13, go_sem, k0, k1, k2, k3, k4, k5, k6, k7, k8]) rfl (DecR.no HE.out (by decide) hfin)
              · have g3' : ¬ (1048576 : Int) < (decLo L : Int) := by omega
                by_cases g4 : 1048576 < decHi L
                · have HE := Lib.hid (show decE L = 2 by unfold decE; rw [if_neg (show ¬ L.length < 2 by omega), if_neg (fun h => h HF.out), if_neg HOK.out, if_neg (by omega), if_pos (.inr g4)])
                  have g4' : (1048576 : Int) < (decHi L : Int) := by omega
                  clear g2
                  go_wp2_with fail
                  have hq9 := put9_map HD.out.zero (fun _ => 0) (.slice none 0 0) 0 0
                  obtain ⟨k0, k1, k2, k3, k4, k5, k6, k7, k8⟩ := hq9.all
                  have hfin := put9_below HD.out.bel (show w.heap.size ≤ p from Nat.le_of_eq HPZ.out) (fun _ => 0) (.slice none 0 0) 0 0
                  unfold put9 at k0 k1 k2 k3 k4 k5 k6 k7 k8 hfin
                  exact bodyPost_ret (v := .tuple #[.agg #[.int .i64 0, .int .i64 0, .int .i64 0, .int .i64 0, .int .i64 0, .int .i64 0, .slice none 0 0, .int .i64 0, .int .i64 0], .int .i64 2]) (by simp [results, Try.results13, go_sem, k0, k1, k2, k3, k4, k5, k6, k7, k8]) rfl (DecR.no HE.out (by decide) hfin)
                · have HE := Lib.hid (show decE L = 0 by unfold decE; rw [if_neg (show ¬ L.length < 2 by omega), if_neg (fun h => h HF.out), if_neg HOK.out, if_neg (by omega), if_neg (by omega)])
                  have g4' : ¬ (1048576 : Int) < (decHi L : Int) := by omega
                  clear g2 c0 c1 c2 c3 c4 c5 c6 c7 c8 d0 d1 d2 d3 d4 d5 d6 d7 d8 f0 f1 f2 f3 f4 f5 f6 f7 f8 q0 q1 q2 q3 q4 q5 q6 q7 q8
                  obtain ⟨d0, d1, d2, d3, d4, d5, d6, d7, d8⟩ := HD.out.box.all
                  clear d0 d1 d2 d3 d4 d5 d6
                  obtain ⟨ad, had⟩ : ∃ ad, (if c = 2 then some (⟨b, off, none⟩ : Addr) else some ⟨b, off + 2, none⟩) = ad := ⟨_, rfl⟩
                  have hr1 : Row w2 ad (L.drop 2) (c - 2) := by
                    rw [← had]
                    split
                    · rw [show L.drop 2 = [] from List.drop_eq_nil_of_le (by omega)]
                      exact Row.nil _ _ _ (by omega)
                    · exact Row.dropV HR.out 2 (by omega)
                  have HR1 := Lib.hid hr1
                  have HLD := Lib.hid (show (L.drop 2).length = L.length - 2 from List.length_drop)
                  clear hr1
                  go_wp2_with (at_builtin; refine wpList_appAny (α := V) (zs := []) (ys := L.drop 2) (B := w2.heap.size) rfl _ _ rfl rfl (G.Own.nil _ _) (by rw [HLD.out]; rfl) HR1.out (by rw [HLD.out]; simp; omega) (Nat.le_refl _) ?_; intro a5 cc w5 ho5 hb5; have HO5 := Lib.hid (show G.Own w5 w2.heap.size (.slice a5 (L.length - 2) cc) (L.drop 2) by rw [HLD.out] at ho5; simpa using ho5); have HD5 := Lib.hid (HD.out.below hb5); rw [show ([] : List V).length + (L.drop 2).length = L.length - 2 by rw [HLD.out]; simp]; clear ho5 hb5 d7 d8; have q6 := HD5.out.box.free 6; obtain ⟨d0, d1, d2, d3, d4, d5, d6, d7, d8⟩ := HD5.out.box.all; obtain ⟨f0, f1, f2, f3, f4, f5, f6, f7, f8⟩ := HD5.out.zero.frees; obtain ⟨w6, hw6⟩ : ∃ w6, w5.setCell ⟨g, 6, none⟩ (.slice a5 (L.length - 2) cc) = w6 := ⟨_, rfl⟩; have HB6 := Lib.hid (show Mp w6 g (decX L) (.slice a5 (L.length - 2) cc) (decLo L : Int) (decHi L : Int) by rw [← hw6]; exact HD5.out.box.setS _); have HZ6 := Lib.hid (show Mp w6 p (fun _ => 0) (.slice none 0 0) 0 0 by rw [← hw6]; exact HD5.out.zero.other (q := ⟨g, 6, none⟩) (show g ≠ p from Nat.ne_of_gt HD5.out.lt) _); have HL6 := Lib.hid (show Below w.heap.size w w6 by rw [← hw6]; exact HD5.out.bel.setCell (p := ⟨g, 6, none⟩) (show w.heap.size ≤ g by have := HD5.out.lt; have := HPZ.out; omega) _); have HO6 := Lib.hid (show G.Own w6 w2.heap.size (.slice a5 (L.length - 2) cc) (L.drop 2) by rw [← hw6]; exact HO5.out.other (p := ⟨g, 6, none⟩) _ (G.own_ne HO5.out HD.out.box.lt)); obtain ⟨m0, m1, m2, m3, m4, m5, m6, m7, m8⟩ := HB6.out.all; obtain ⟨e0, e1, e2, e3, e4, e5, e6, e7, e8⟩ := HZ6.out.frees; obtain ⟨n0, n1, n2, n3, n4, n5, n6, n7, n8⟩ := HZ6.out.all)
                  have hq9 := put9_map HZ6.out (decX L) (.slice a5 (L.length - 2) cc) (decLo L : Int) (decHi L : Int)
                  obtain ⟨k0, k1, k2, k3, k4, k5, k6, k7, k8⟩ := hq9.all
                  have hfin := put9_below HL6.out (show w.heap.size ≤ p from Nat.le_of_eq HPZ.out) (decX L) (.slice a5 (L.length - 2) cc) (decLo L : Int) (decHi L : Int)
                  have hown := (put9_own HO6.out (G.own_ne HO6.out HD.out.zero.lt) (decX L) (.slice a5 (L.length - 2) cc) (decLo L : Int) (decHi L : Int)).mono HD.out.bel.size
                  unfold put9 at k0 k1 k2 k3 k4 k5 k6 k7 k8 hfin hown
                  exact bodyPost_ret (v := .tuple #[.agg #[.int .i64 (decX L 0), .int .i64 (decX L 1), .int .i64 (decX L 2), .int .i64 (decX L 3), .int .i64 (decX L 4), .int .i64 (decX L 5), .slice a5 (L.length - 2) cc, .int .i64 (decLo L : Int), .int .i64 (decHi L : Int)], .int .i64 0]) (by simp [results, Try.results13, go_sem, k0, k1, k2, k3, k4, k5, k6, k7, k8]) rfl (DecR.yes HE.out hfin List.length_drop (fun _ _ => rfl) rfl rfl hown)
            · have HE := Lib.hid (show decE L = 7 by unfold decE; rw [if_neg (show ¬ L.length < 2 by omega), if_neg (fun h => h HF.out), if_neg HOK.out, if_pos (.inr g2)])
              have hne : ((L.length : Int) != 2 + (decN L : Int)) = true := by rw [bne_iff_ne]; omega
              clear g2
              go_wp2_with fail
              have hq9 := put9_map HD.out.zero (fun _ => 0) (.slice none 0 0) 0 0
              obtain ⟨k0, k1, k2, k3, k4, k5, k6, k7, k8⟩ := hq9.all
              have hfin := put9_below HD.out.bel (show w.heap.size ≤ p from Nat.le_of_eq HPZ.out) (fun _ => 0) (.slice none 0 0) 0 0
              unfold put9 at k0 k1 k2 k3 k4 k5 k6 k7 k8 hfin
              exact bodyPost_ret (v := .tuple #[.agg #[.int .i64 0, .int .i64 0, .int .i64 0, .int .i64 0, .int .i64 0, .int .i64 0, .slice none 0 0, .int .i64 0, .int .i64 0], .int .i64 7]) (by simp [results, Try.results13, go_sem, k0, k1, k2, k3, k4, k5, k6, k7, k8]) rfl (DecR.no HE.out (by decide) hfin)
    · have HE := Lib.hid (show decE L = 12 by unfold decE; rw [if_neg h2, if_pos hf])
      have hq : (((el L 0).toNat : Int) / 4294967296 != 1291845632) = true := by rw [bne_iff_ne]; omega
      obtain ⟨f0, f1, f2, f3, f4, f5, f6, f7, f8⟩ := HZ.out.frees
      obtain ⟨c0, c1, c2, c3, c4, c5, c6, c7, c8⟩ := HZ.out.all
      clear hf
      go_enter Try.func13, Try.ntmps13
      go_wp2_with fail
      have hq9 := put9_map HZ.out (fun _ => 0) (.slice none 0 0) 0 0
      obtain ⟨k0, k1, k2, k3, k4, k5, k6, k7, k8⟩ := hq9.all
      have hfin := put9_below HB0.out (show w.heap.size ≤ p from Nat.le_of_eq HPZ.out) (fun _ => 0) (.slice none 0 0) 0 0
      unfold put9 at k0 k1 k2 k3 k4 k5 k6 k7 k8 hfin
      exact bodyPost_ret (v := .tuple #[.agg #[.int .i64 0, .int .i64 0, .int .i64 0, .int .i64 0, .int .i64 0, .int .i64 0, .slice none 0 0, .int .i64 0, .int .i64 0], .int .i64 12]) (by simp [results, Try.results13, go_sem, k0, k1, k2, k3, k4, k5, k6, k7, k8]) rfl (DecR.no HE.out (by decide) hfin)
end Go.Proofs.Ytfleehlajngkbaa.RG
