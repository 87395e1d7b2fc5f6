/- register.Encode. -/
import Derived.Test.YtfleehlajngkbaaRgCat
import Derived.Test.YtfleehlajngkbaaRgChk
namespace Go.Proofs.Ytfleehlajngkbaa.RG
open Go Go.RowKit Go.Shelf
open G P
/-- The registers, none if there is an error. -/
def encO (x : Nat → Int) (R : List V) (lo hi : Int) : List V := if encE x R.length lo hi = 0 then encL x R lo hi else []
/-- What both Encodes leave. -/
def EncR (w : World) (x : Nat → Int) (R : List V) (lo hi : Int) (e : Ending) (W : World) : Prop :=
  ∃ a' c', e = .returned (.tuple #[.slice a' (encO x R lo hi).length c', .int .i64 (encE x R.length lo hi)]) ∧ G.Own W w.heap.size (.slice a' (encO x R lo hi).length c') (encO x R lo hi) ∧ Below w.heap.size w W
theorem EncR.no {w W : World} {x : Nat → Int} {R : List V} {lo hi E : Int} (h : encE x R.length lo hi = E) (hE : E ≠ 0) (hb : Below w.heap.size w W) : EncR w x R lo hi (.returned (.tuple #[.slice none 0 0, .int .i64 E])) W := by
  have e : encO x R lo hi = [] := by unfold encO; rw [if_neg (by rw [h]; exact hE)]
  refine ⟨none, 0, by rw [e, h]; rfl, ?_, hb⟩
  rw [e]
  exact G.Own.nil _ _
theorem index_six (x : Nat → Int) (k : Nat) (hk : k < 6) (w : World) :
    Sem.run Try.prog (Instr.index 49 (.agg #[.int .i64 (x 0), .int .i64 (x 1), .int .i64 (x 2), .int .i64 (x 3), .int .i64 (x 4), .int .i64 (x 5)]) (.int .i64 (k : Int))) w = .ok (.int .i64 (x k)) w := by
  obtain rfl | rfl | rfl | rfl | rfl | rfl : k = 0 ∨ k = 1 ∨ k = 2 ∨ k = 3 ∨ k = 4 ∨ k = 5 := by omega
  all_goals rfl
theorem u64_v {a b : Int} (h : a = b) : Value.int .u64 a = .int .u64 b := by rw [h]
theorem first_0 (x : Nat → Int) (n : Nat) (hn : n ≤ 12) : bits BinOp.or IntKind.u64 5548434740920451072 ((n : Int) * 16777216) = ((first x n 0).toNat : Int) := by
  have e := shl_V (BitVec.ofNat 64 n) 24
  rw [BitVec.toNat_ofNat, Nat.mod_eq_of_lt (by omega), show ((n : Int) * 2 ^ 24) = ((n * 16777216 : Nat) : Int) by omega, u64_wrap _ (by omega)] at e
  rw [show ((n : Int) * 16777216) = ((n * 16777216 : Nat) : Int) by omega, e]
  exact or_V 5548434740920451072#64 _
theorem sec_val (L H : Nat) (hL : L ≤ 1048576) (hH : H ≤ 1048576) : bits BinOp.or IntKind.u64 ((H : Int) * 4294967296) (L : Int) = ((second L H).toNat : Int) := by
  have e := shl_V (BitVec.ofNat 64 H) 32
  rw [BitVec.toNat_ofNat, Nat.mod_eq_of_lt (by omega), show ((H : Int) * 2 ^ 32) = ((H * 4294967296 : Nat) : Int) by omega, u64_wrap _ (by omega)] at e
  have e2 : (L : Int) = ((BitVec.ofNat 64 L).toNat : Int) := by rw [BitVec.toNat_ofNat, Nat.mod_eq_of_lt (by omega)]
  rw [show ((H : Int) * 4294967296) = ((H * 4294967296 : Nat) : Int) by omega, e, e2]
  have := or_V (BitVec.ofNat 64 H <<< 32) (BitVec.ofNat 64 L)
  rw [this]
  rfl
theorem first_step (x : Nat → Int) (n k : Nat) (h : wd x k ≤ 12) : bits BinOp.or IntKind.u64 ((first x n k).toNat : Int) (IntKind.u64.wrap ((wd x k : Int) * 2 ^ (k * 4))) = ((first x n (k + 1)).toNat : Int) := by
  have e := shl_V (BitVec.ofNat 64 (wd x k)) (k * 4)
  rw [BitVec.toNat_ofNat, Nat.mod_eq_of_lt (by omega)] at e
  rw [e, or_V, Nat.mul_comm k 4]
  rfl
set_option maxRecDepth 100000 in
set_option maxHeartbeats 1000000 in
theorem encode_n (x : Nat → Int) (a : Option Addr) (R : List V) (n c : Nat) (lo hi : Int) (w : World) (hR : Row w a R c) (HN : Hid (R.length = n)) :
    Calls Try.prog 15 #[.agg #[.int .i64 (x 0), .int .i64 (x 1), .int .i64 (x 2), .int .i64 (x 3), .int .i64 (x 4), .int .i64 (x 5), .slice a n c, .int .i64 lo, .int .i64 hi]] w (EncR w x R lo hi) := by
  have hroom : n ≤ c := by have := hR.room; have := HN.out; omega
  have hmost := hR.most
  have hm := Mp.new w x (.slice a n c) lo hi
  have HB0 := Lib.hid ((Below.refl _ w).alloc (Nat.le_refl _) (.cells #[.int .i64 (x 0), .int .i64 (x 1), .int .i64 (x 2), .int .i64 (x 3), .int .i64 (x 4), .int .i64 (x 5), .slice a n c, .int .i64 lo, .int .i64 hi] 34))
  have HC := Lib.hid (fun W => check_any x a n c lo hi (n : Int) W)
  rw [chk_enc] at HC
  obtain ⟨w1, hw1⟩ : ∃ w1, w.alloc (.cells #[.int .i64 (x 0), .int .i64 (x 1), .int .i64 (x 2), .int .i64 (x 3), .int .i64 (x 4), .int .i64 (x 5), .slice a n c, .int .i64 lo, .int .i64 hi] 34) = w1 := ⟨_, rfl⟩
  rw [hw1] at hm HB0
  obtain ⟨p, hp⟩ : ∃ p, w.heap.size = p := ⟨_, rfl⟩
  rw [hp] at hm
  obtain ⟨c0, c1, c2, c3, c4, c5, c6, c7, c8⟩ := hm.all
  have HM := Lib.hid hm
  have HR := Lib.hid hR
  clear hm hR
  by_cases he : encE x n lo hi = 0
  · obtain ⟨hok, hn, hlo, hhi⟩ := enc_ok he
    rw [he] at HC
    have HE := Lib.hid he
    have HX := Lib.hid (ok_yes hok).1
    obtain ⟨L, hL⟩ : ∃ L : Nat, lo = (L : Int) := ⟨lo.toNat, by omega⟩
    obtain ⟨H, hH⟩ : ∃ H : Nat, hi = (H : Int) := ⟨hi.toNat, by omega⟩
    subst hL
    subst hH
    have hwn : IntKind.u64.wrap (n : Int) = (n : Int) := u64_wrap n (by omega)
    have hwL : IntKind.u64.wrap (L : Int) = (L : Int) := u64_wrap L (by omega)
    have hwH : IntKind.u64.wrap (H : Int) = (H : Int) := u64_wrap H (by omega)
    clear hok he
    go_enter Try.func15, Try.ntmps15
    go_wp2_with fail
    refine (HC.out _).mono ?_
    rintro e w2 ⟨rfl, hb2⟩
    have HB2 := Lib.hid (HB0.out.trans (hb2.mono HB0.out.size))
    have HM2 := Lib.hid (HM.out.below hb2)
    have HR2 := Lib.hid ((HR.out.below (HB0.out)).below hb2)
    clear c0 c1 c2 c3 c4 c5 c6 c7 c8 hb2 HM HR hw1 HB0
    obtain ⟨c0, c1, c2, c3, c4, c5, c6, c7, c8⟩ := HM2.out.all
    go_wp2_with fail
    go_loopw [5, 42] (fun f i wr => ∃ k : Nat, i = .int .i64 (k : Int) ∧ k ≤ 6 ∧ f = .int .u64 ((first x n k).toNat : Int) ∧ wr = w2) (fun _ i _ => 6 - (intOf i).toNat)
    case atStart => exact ⟨0, rfl, by decide, u64_v (first_0 x n hn), rfl⟩
    case round =>
      obtain ⟨k, rfl, hk, rfl, rfl⟩ := hrel
      by_cases hlt : k < 6
      · have hidx := index_six x k hlt
        obtain ⟨hx, hwd⟩ := HX.out k hlt
        have hwk : wrap64 ((k : Int) * 4) = (k : Int) * 4 := by unfold wrap64; omega
        have hwu : IntKind.u64.wrap (x k) = (wd x k : Int) := by rw [hx]; exact u64_wrap _ (by omega)
        have HS := Lib.hid (first_step x n k hwd)
        clear hx
        go_wp2_with fail
        go_round
        case rel => exact ⟨k + 1, by go_num, hlt, u64_v HS.out, trivial⟩
        case measure => simp [intOf]; omega
      · obtain rfl : k = 6 := by omega
        have hsec := sec_val L H (by omega) (by omega)
        obtain ⟨F, hF⟩ : ∃ F, first x n 6 = F := ⟨_, rfl⟩
        obtain ⟨S, hS⟩ : ∃ S, second L H = S := ⟨_, rfl⟩
        rw [hF]
        rw [hS] at hsec
        have hl2 := row_list (α := V) wr [F, S] 38 (by simp)
        obtain ⟨q, hq⟩ : ∃ q, wr.heap.size = q := ⟨_, rfl⟩
        obtain ⟨w3, hw3⟩ : ∃ w3, wr.alloc (.cells #[.int .u64 (F.toNat : Int), .int .u64 (S.toNat : Int)] 38) = w3 := ⟨_, rfl⟩
        have hl3 : Row w3 (some ⟨q, 0, none⟩) [F, S] 2 := by rw [← hw3, ← hq]; exact hl2
        have hm3 : Mp w3 p x (.slice a n c) L H := by rw [← hw3]; exact HM2.out.alloc _
        have hR3 : Row w3 a R c := by rw [← hw3]; exact HR2.out.alloc _
        have hB3 : Below w.heap.size w w3 := by rw [← hw3]; exact HB2.out.alloc HB2.out.size _
        clear c0 c1 c2 c3 c4 c5 hl2
        have d6 := hm3.c6
        obtain ⟨g, hg⟩ : ∃ g, w3.heap.size = g := ⟨_, rfl⟩
        obtain ⟨w4, hw4⟩ : ∃ w4, w3.alloc (.cells #[.slice (some ⟨q, 0, none⟩) 2 2, .slice a n c] 22) = w4 := ⟨_, rfl⟩
        have hl4 : Row w4 (some ⟨q, 0, none⟩) [F, S] 2 := by rw [← hw4]; exact hl3.alloc _
        have hR4 : Row w4 a R c := by rw [← hw4]; exact hR3.alloc _
        have hB4 : Below w.heap.size w w4 := by rw [← hw4]; exact hB3.alloc hB3.size _
        have hbx : Box w4 g 22 [.slice (some ⟨q, 0, none⟩) 2 2, .slice a n c] := by rw [← hw4, ← hg]; exact Box.new w3 _ _
        have HCC := Lib.hid (show Calls Try.prog 25 #[.slice (some ⟨g, 0, none⟩) 2 2] w4 fun e W => ∃ a c, e = .returned (.slice a ([F, S] ++ R).length c) ∧ G.Own W w4.heap.size (.slice a ([F, S] ++ R).length c) ([F, S] ++ R) ∧ Below w4.heap.size w4 W from
          concat_any g (some ⟨q, 0, none⟩) a [F, S] R 2 c w4 (Box.cell hbx 0 rfl) (by rw [HN.out]; exact Box.cell hbx 1 rfl) hl4 hR4 (by simp) (by rw [HN.out]; omega))
        have HF := Lib.hid hF
        have HS := Lib.hid hS
        have HB4 := Lib.hid hB4
        clear hl3 hm3 hR3 hB3 hl4 hR4 hB4 hbx hF hS
        go_wp2_with fail
        refine HCC.out.mono ?_
        rintro e w5 ⟨a5, k5, rfl, ho5, hb5⟩
        have HO := Lib.hid (ho5.mono HB4.out.size)
        have HB5 := Lib.hid (HB4.out.trans (hb5.mono HB4.out.size))
        clear ho5 hb5
        go_wp2_with fail
        have hO : encO x R (L : Int) (H : Int) = [F, S] ++ R := by
          unfold encO
          rw [HN.out, if_pos HE.out]
          unfold encL
          rw [HN.out, HF.out, Int.toNat_natCast, Int.toNat_natCast, HS.out]
          rfl
        exact bodyPost_ret (v := .tuple #[.slice a5 ([F, S] ++ R).length k5, .int .i64 0]) (by simp [results, Try.results15, go_sem]) rfl ⟨a5, k5, by rw [hO, HN.out, HE.out], by rw [hO]; exact HO.out, HB5.out⟩
  · obtain ⟨E, hE⟩ : ∃ E, encE x n lo hi = E := ⟨_, rfl⟩
    rw [hE] at HC he
    have HE := Lib.hid hE
    have hq : (E != 0) = true := by rw [bne_iff_ne]; exact he
    have HQ := Lib.hid he
    clear hE he
    go_enter Try.func15, Try.ntmps15
    go_wp2_with fail
    refine (HC.out _).mono ?_
    rintro e w2 ⟨rfl, hb2⟩
    have HB2 := Lib.hid (HB0.out.trans (hb2.mono HB0.out.size))
    clear hb2
    go_wp2_with fail
    exact bodyPost_ret (v := .tuple #[.slice none 0 0, .int .i64 E]) (by simp [results, Try.results15, go_sem]) rfl (EncR.no (by rw [HN.out]; exact HE.out) HQ.out HB2.out)
theorem encode_any (x : Nat → Int) (a : Option Addr) (R : List V) (c : Nat) (lo hi : Int) (w : World) (hR : Row w a R c) :
    Calls Try.prog 15 #[.agg #[.int .i64 (x 0), .int .i64 (x 1), .int .i64 (x 2), .int .i64 (x 3), .int .i64 (x 4), .int .i64 (x 5), .slice a R.length c, .int .i64 lo, .int .i64 hi]] w (EncR w x R lo hi) := encode_n x a R R.length c lo hi w hR (Lib.hid rfl)
end Go.Proofs.Ytfleehlajngkbaa.RG
