/- ref11.Encode. -/
import Derived.Test.YtfleehlajngkbaaRgEnc
import Derived.Test.YtfleehlajngkbaaPRef1
namespace Go.Proofs.Ytfleehlajngkbaa.RG
open Go Go.RowKit Go.Shelf
open G P
set_option maxRecDepth 100000 in
set_option maxHeartbeats 2000000 in
theorem rencode_n (x : Nat → Int) (a : Option Addr) (R : List V) (n c : Nat) (lo hi : Int) (w : World) (hR : Row w a R c) (HN : Hid (R.length = n)) :
    Calls Try.prog 7 #[.agg #[.int .i64 (x 0), .int .i64 (x 1), .int .i64 (x 2), .int .i64 (x 3), .int .i64 (x 4), .int .i64 (x 5), .slice a n c, .int .i64 lo, .int .i64 hi]] w (EncR w x R lo hi) := by
  have hroom : n ≤ c := by have := hR.room; have := HN.out; omega
  have hmost := hR.most
  have hm := Mp.new w x (.slice a n c) lo hi
  have HB0 := Lib.hid ((Below.refl _ w).alloc (Nat.le_refl _) (.cells #[.int .i64 (x 0), .int .i64 (x 1), .int .i64 (x 2), .int .i64 (x 3), .int .i64 (x 4), .int .i64 (x 5), .slice a n c, .int .i64 lo, .int .i64 hi] 34))
  have HV := Lib.hid (fun W => rvalid_any x W)
  obtain ⟨w0, hw0⟩ : ∃ w0, w.alloc (.cells #[.int .i64 (x 0), .int .i64 (x 1), .int .i64 (x 2), .int .i64 (x 3), .int .i64 (x 4), .int .i64 (x 5), .slice a n c, .int .i64 lo, .int .i64 hi] 34) = w0 := ⟨_, rfl⟩
  rw [hw0] at hm HB0
  obtain ⟨p, hp⟩ : ∃ p, w.heap.size = p := ⟨_, rfl⟩
  rw [hp] at hm
  obtain ⟨c0, c1, c2, c3, c4, c5, c6, c7, c8⟩ := hm.all
  have HM := Lib.hid hm
  have HR := Lib.hid (hR.below HB0.out)
  clear hm hR
  cases hok : okB x with
  | false =>
    rw [hok] at HV
    have HE := Lib.hid (show encE x n lo hi = 1 by unfold encE; rw [if_pos hok])
    clear hok
    go_enter Try.func7, Try.ntmps7
    go_wp2_with fail
    refine (HV.out _).mono ?_
    rintro e w1 ⟨rfl, hb1⟩
    have HB1 := Lib.hid (HB0.out.trans (hb1.mono HB0.out.size))
    clear hb1
    go_wp2_with fail
    exact bodyPost_ret (v := .tuple #[.slice none 0 0, .int .i64 1]) (by simp [results, Try.results7, go_sem]) rfl (EncR.no (by rw [HN.out]; exact HE.out) (by decide) HB1.out)
  | true =>
    have HK := Lib.hid (show ¬ okB x = false by rw [hok]; simp)
    have HX := Lib.hid (ok_yes hok).1
    rw [hok] at HV
    clear hok
    go_enter Try.func7, Try.ntmps7
    go_wp2_with fail
    refine (HV.out _).mono ?_
    rintro e w1 ⟨rfl, hb1⟩
    have HB1 := Lib.hid (HB0.out.trans (hb1.mono HB0.out.size))
    have HM1 := Lib.hid (HM.out.below hb1)
    have HR1 := Lib.hid (HR.out.below hb1)
    clear c0 c1 c2 c3 c4 c5 c6 c7 c8 hb1 HM HR HB0 hw0
    obtain ⟨c0, c1, c2, c3, c4, c5, c6, c7, c8⟩ := HM1.out.all
    by_cases h1 : 12 < n
    · have HE := Lib.hid (show encE x n lo hi = 7 by unfold encE; rw [if_neg HK.out, if_pos h1])
      go_wp2_with fail
      exact bodyPost_ret (v := .tuple #[.slice none 0 0, .int .i64 7]) (by simp [results, Try.results7, go_sem]) rfl (EncR.no (by rw [HN.out]; exact HE.out) (by decide) HB1.out)
    · by_cases g0 : lo < 0
      · have HE := Lib.hid (show encE x n lo hi = 2 by unfold encE; rw [if_neg HK.out, if_neg h1, if_pos (by omega)])
        go_wp2_with fail
        exact bodyPost_ret (v := .tuple #[.slice none 0 0, .int .i64 2]) (by simp [results, Try.results7, go_sem]) rfl (EncR.no (by rw [HN.out]; exact HE.out) (by decide) HB1.out)
      · by_cases g1 : 1048576 < lo
        · have HE := Lib.hid (show encE x n lo hi = 2 by unfold encE; rw [if_neg HK.out, if_neg h1, if_pos (by omega)])
          go_wp2_with fail
          exact bodyPost_ret (v := .tuple #[.slice none 0 0, .int .i64 2]) (by simp [results, Try.results7, go_sem]) rfl (EncR.no (by rw [HN.out]; exact HE.out) (by decide) HB1.out)
        · by_cases g2 : hi < 0
          · have HE := Lib.hid (show encE x n lo hi = 2 by unfold encE; rw [if_neg HK.out, if_neg h1, if_pos (by omega)])
            go_wp2_with fail
            exact bodyPost_ret (v := .tuple #[.slice none 0 0, .int .i64 2]) (by simp [results, Try.results7, go_sem]) rfl (EncR.no (by rw [HN.out]; exact HE.out) (by decide) HB1.out)
          · by_cases g3 : 1048576 < hi
            · have HE := Lib.hid (show encE x n lo hi = 2 by unfold encE; rw [if_neg HK.out, if_neg h1, if_pos (by omega)])
              go_wp2_with fail
              exact bodyPost_ret (v := .tuple #[.slice none 0 0, .int .i64 2]) (by simp [results, Try.results7, go_sem]) rfl (EncR.no (by rw [HN.out]; exact HE.out) (by decide) HB1.out)
            · have HE := Lib.hid (show encE x n lo hi = 0 by unfold encE; rw [if_neg HK.out, if_neg h1, if_neg (by omega)])
              obtain ⟨L, hL⟩ : ∃ L : Nat, lo = (L : Int) := ⟨lo.toNat, by omega⟩
              obtain ⟨H, hH⟩ : ∃ H : Nat, hi = (H : Int) := ⟨hi.toNat, by omega⟩
              subst hL
              subst hH
              have hwn : IntKind.u64.wrap (n : Int) = (n : Int) := u64_wrap n (by omega)
              have hwL : IntKind.u64.wrap (L : Int) = (L : Int) := u64_wrap L (by omega)
              have hwH : IntKind.u64.wrap (H : Int) = (H : Int) := u64_wrap H (by omega)
              have hsx := Six.new w1 32 x
              obtain ⟨q, hq⟩ : ∃ q, w1.heap.size = q := ⟨_, rfl⟩
              obtain ⟨w2, hw2⟩ : ∃ w2, w1.alloc (.cells #[.int .i64 (x 0), .int .i64 (x 1), .int .i64 (x 2), .int .i64 (x 3), .int .i64 (x 4), .int .i64 (x 5)] 32) = w2 := ⟨_, rfl⟩
              rw [hw2, hq] at hsx
              have hB2 : Below w.heap.size w w2 := by rw [← hw2]; exact HB1.out.alloc HB1.out.size _
              have hm2 : Mp w2 p x (.slice a n c) L H := by rw [← hw2]; exact HM1.out.alloc _
              have hR2 : Row w2 a R c := by rw [← hw2]; exact HR1.out.alloc _
              have hs2 := Six.new w2 49 x
              obtain ⟨g, hg⟩ : ∃ g, w2.heap.size = g := ⟨_, rfl⟩
              obtain ⟨w3, hw3⟩ : ∃ w3, w2.alloc (.cells #[.int .i64 (x 0), .int .i64 (x 1), .int .i64 (x 2), .int .i64 (x 3), .int .i64 (x 4), .int .i64 (x 5)] 49) = w3 := ⟨_, rfl⟩
              rw [hw3, hg] at hs2
              have HB3 := Lib.hid (show Below w.heap.size w w3 by rw [← hw3]; exact hB2.alloc hB2.size _)
              have hm3 : Mp w3 p x (.slice a n c) L H := by rw [← hw3]; exact hm2.alloc _
              have HR3 := Lib.hid (show Row w3 a R c by rw [← hw3]; exact hR2.alloc _)
              obtain ⟨d0, d1, d2, d3, d4, d5⟩ := hsx.all
              have HS2 := Lib.hid hs2
              have HM3 := Lib.hid hm3
              have e6 := hm3.c6
              have e7 := hm3.c7
              have e8 := hm3.c8
              clear hsx hB2 hm2 hR2 hs2 hm3 HM1 HR1
              go_wp2_with fail
              go_loopw [6, 7] (fun f i wr => ∃ k : Nat, i = .int .i64 (k : Int) ∧ k ≤ 6 ∧ f = .int .u64 ((first x n k).toNat : Int) ∧ wr = w3) (fun _ i _ => 6 - (intOf i).toNat)
              case atStart => exact ⟨0, rfl, by decide, u64_v (first_0 x n (by omega)), rfl⟩
              case round =>
                clear c0 c1 c2 c3 c4 c5 c6 c7 c8 d0 d1 d2 d3 d4 d5
                obtain ⟨k, rfl, hk, rfl, rfl⟩ := hrel
                by_cases hlt : k < 6
                · have hc := HS2.out.at k hlt
                  obtain ⟨hx, hwd⟩ := HX.out k hlt
                  have hwk : wrap64 (4 * (k : Int)) = 4 * (k : Int) := by unfold wrap64; omega
                  have hwk2 : IntKind.u64.wrap (4 * (k : Int)) = 4 * (k : Int) := by rw [IntKind.wrap_u64]; omega
                  have hwu : IntKind.u64.wrap (x k) = (wd x k : Int) := by rw [hx]; exact u64_wrap _ (by omega)
                  have HS := Lib.hid (first_step x n k hwd)
                  rw [Nat.mul_comm k 4] at HS
                  clear hx
                  go_wp2_with fail
                  go_round
                  case rel => exact ⟨k + 1, by go_num, hlt, u64_v HS.out, trivial⟩
                  case measure => simp [intOf]; omega
                · obtain rfl : k = 6 := by omega
                  have hsec := sec_val L H (by omega) (by omega)
                  obtain ⟨F, hF⟩ : ∃ F, first x n 6 = F := ⟨_, rfl⟩
                  obtain ⟨S, hS⟩ : ∃ S, second L H = S := ⟨_, rfl⟩
                  rw [hF]
                  rw [hS] at hsec
                  have hl2 := own_list (α := V) wr w.heap.size [F, S] HB3.out.size (by simp)
                  obtain ⟨q5, hq5⟩ : ∃ q, wr.heap.size = q := ⟨_, rfl⟩
                  obtain ⟨w4, hw4⟩ : ∃ w4, wr.alloc (.cells #[.int .u64 (F.toNat : Int), .int .u64 (S.toNat : Int)] 38) = w4 := ⟨_, rfl⟩
                  have HO4 := Lib.hid (show G.Own w4 w.heap.size (.slice (some ⟨q5, 0, none⟩) 2 2) [F, S] by rw [← hw4, ← hq5]; exact hl2)
                  have hm4 : Mp w4 p x (.slice a n c) L H := by rw [← hw4]; exact HM3.out.alloc _
                  have HR4 := Lib.hid (show Row w4 a R c by rw [← hw4]; exact HR3.out.alloc _)
                  have HB4 := Lib.hid (show Below w.heap.size w w4 by rw [← hw4]; exact HB3.out.alloc HB3.out.size _)
                  have f6 := hm4.c6
                  have HF := Lib.hid hF
                  have HS := Lib.hid hS
                  clear hl2 hm4 hF hS
                  go_wp2_with (at_builtin; refine wpList_appAny (α := V) (zs := [F, S]) (ys := R) (B := w.heap.size) rfl _ _ rfl rfl HO4.out (by rw [HN.out]; rfl) HR4.out (by rw [HN.out]; simp; omega) HB4.out.size ?_; intro a5 k5 w5 ho5 hb5; have HO5 := Lib.hid ho5; have HB5 := Lib.hid (HB4.out.trans hb5); clear ho5 hb5)
                  have hO : encO x R (L : Int) (H : Int) = [F, S] ++ R := by
                    unfold encO
                    rw [HN.out, if_pos HE.out]
                    unfold encL
                    rw [HN.out, HF.out, Int.toNat_natCast, Int.toNat_natCast, HS.out]
                    rfl
                  have hlen : [F, S].length + R.length = ([F, S] ++ R).length := (List.length_append).symm
                  exact bodyPost_ret (v := .tuple #[.slice a5 ([F, S].length + R.length) k5, .int .i64 0]) (by simp [results, Try.results7, go_sem]) rfl ⟨a5, k5, by rw [hO, HN.out, HE.out, ← hlen, HN.out], by rw [hO, ← hlen]; exact HO5.out, HB5.out⟩
theorem rencode_any (x : Nat → Int) (a : Option Addr) (R : List V) (c : Nat) (lo hi : Int) (w : World) (hR : Row w a R c) :
    Calls Try.prog 7 #[.agg #[.int .i64 (x 0), .int .i64 (x 1), .int .i64 (x 2), .int .i64 (x 3), .int .i64 (x 4), .int .i64 (x 5), .slice a R.length c, .int .i64 lo, .int .i64 hi]] w (EncR w x R lo hi) := rencode_n x a R R.length c lo hi w hR (Lib.hid rfl)
end Go.Proofs.Ytfleehlajngkbaa.RG
