/- law10.HashSpreads. -/
import Derived.Test.YtodiokladojnjaaHsA
import Derived.Test.YtodiokladojnjaaHsK2
import Derived.Test.YtodiokladojnjaaBDice
namespace Go.Proofs.Ytodiokladojnjaa.B
open Go Go.RowKit Go.Shelf

theorem sum_mono (g : Nat → Nat) {k n : Nat} (h : k ≤ n) : HS.sum g k ≤ HS.sum g n := by
  induction n with
  | zero => rw [Nat.le_zero.1 h]; exact Nat.le_refl _
  | succ n ih =>
    by_cases e : k = n + 1
    · rw [e]; exact Nat.le_refl _
    · exact Nat.le_trans (ih (by omega)) (by rw [HS.sum]; omega)
/-- A hash that is one to one: each value once among 2 ^ b addresses from a multiple of 2 ^ b on. -/
theorem spread_one {b : Nat} {R : List V} (h : Hs b R) (hb : b ≤ 12) (f : Nat) (hf : f < 1000) : ∀ v, v < 2 ^ b → HS.cnt (spF R (f * 2 ^ b) 1) v (2 ^ b) = 1 := by
  have h12 : 2 ^ b ≤ 4096 := Nat.pow_le_pow_right (by decide) hb
  have hlow : ∀ k, k < 2 ^ b → valV R (adr (f * 2 ^ b) 1 k) = valV R (BitVec.ofNat 64 k) := fun k hk => BM.bt_ext (fun j _ => by
    rw [valV_bt, valV_bt, h.len]
    by_cases hj : j < b
    · rw [HS.dot_low (fits_of (h.fit j hj)) (e := BitVec.ofNat 64 k) (fun i hi => ?_)]
      unfold adr BM.bt
      have hmul : f * 2 ^ b ≤ 1000 * 4096 := Nat.mul_le_mul (by omega) h12
      rw [← BitVec.testBit_toNat, ← BitVec.testBit_toNat, BitVec.toNat_ofNat, BitVec.toNat_ofNat, Nat.mod_eq_of_lt (by omega), Nat.mod_eq_of_lt (by omega), Nat.mul_one, Nat.mul_comm f, Nat.testBit_two_pow_mul_add _ hk, if_pos hi]
    · rw [decide_eq_false (by omega), Bool.false_and, Bool.false_and])
  refine HS.cnt_each (fun i _ => by have := spF_lt R (f * 2 ^ b) 1 i; rwa [h.len] at this) (fun i k hi hk e => ?_)
  have e2 : valV R (BitVec.ofNat 64 i) = valV R (BitVec.ofNat 64 k) := by
    rw [← hlow i hi, ← hlow k hk]
    exact BitVec.eq_of_toNat_eq (by unfold spF at e; exact e)
  have h1 := h.inj (fits_nat h.most hi) (fits_nat h.most hk) e2
  have h2 := congrArg BitVec.toNat h1
  rwa [nat_back h.most hi, nat_back h.most hk] at h2

theorem spread_hs {b cap : Nat} {R : List V} (h : Hs b R) (hb : b ≤ 12) {a : Option Addr} {w : World} (hR : Row w a R cap) {p q n : Nat} (hp : p ≤ 1048576) (hq : q ≤ 1048576) (hn : n ≤ 4096) :
    Calls Try.prog 13 #[.slice a b cap, .int .i64 (p : Int), .int .i64 (q : Int), .int .i64 (n : Int)] w fun e W => (∃ a' c', e = .returned (.tuple #[.slice a' (2 ^ b) c', .int .i64 0]) ∧ Row W a' (tab (2 ^ b) (fun v => HS.cnt (spF R p q) v n)) c' ∧ ∀ g o, a' = some ⟨g, o, none⟩ → w.heap.size ≤ g) ∧ Below w.heap.size w W := by
  have := spread_any a cap R p q n w hR
  have hE : sprE R p q n = 0 := by unfold sprE; rw [h.len, if_neg (by omega), if_neg (show ¬ bad3 p q n by unfold bad3; omega)]
  have hL : sprL R p q n = tab (2 ^ b) (fun v => HS.cnt (spF R p q) v n) := by unfold sprL; rw [hE, if_pos rfl, Int.toNat_natCast, Int.toNat_natCast, Int.toNat_natCast, h.len]
  rw [hE, hL, h.len] at this
  refine this.mono ?_
  rintro e W ⟨⟨v, rfl, a', c', rfl, hr, hfr⟩, hb⟩
  exact ⟨⟨a', c', by rw [tab_len], hr, hfr⟩, hb⟩

theorem from_le {b f : Nat} (hb : b ≤ 8) (hf : f < 1000) : f * 2 ^ b ≤ 1048576 := by
  have h1 : (2 : Nat) ^ b ≤ 256 := Nat.pow_le_pow_right (n := 2) (i := b) (j := 8) (by decide) hb
  have := Nat.mul_le_mul (show f ≤ 999 by omega) h1
  omega
theorem shl_from (b f : Nat) (hb : b ≤ 8) (hf : f < 1000) : wrap64 ((f : Int) * 2 ^ b) = ((f * 2 ^ b : Nat) : Int) := by
  have h1 := from_le hb hf
  have h2 : ((2 : Int) ^ b) = ((2 ^ b : Nat) : Int) := by rw [Int.natCast_pow]; rfl
  rw [h2, ← Int.natCast_mul]
  generalize f * 2 ^ b = n at *
  unfold wrap64
  omega
set_option maxRecDepth 100000 in
set_option maxHeartbeats 4000000 in
theorem hashSpreads_any (a : Option Addr) (cap : Nat) (ts : List Int) (x : Int) (w : World) (hR : IRow w a ts cap) (hx : In64 x) :
    Calls Try.prog 6 #[.slice a ts.length cap, .int .i64 x] w fun e W => e = .returned (.bool true) ∧ Below w.heap.size w W := by
  have hroom := hR.room
  have hmost := hR.most
  by_cases hl : ts.length ≤ 400
  · have hlt := light_any a ts.length cap w
    rw [decide_eq_true (show (ts.length : Int) ≤ 400 by omega)] at hlt
    have HL := Lib.hid hlt
    have HRO := Lib.hid (roll_any a cap ts w hR hl)
    clear hlt hR
    go_enter Try.func6, Try.ntmps6
    go_wp2_with fail
    refine HL.out.mono ?_
    rintro e w1 ⟨rfl, hw⟩
    obtain rfl := hw.symm
    go_wp2_with fail
    refine HRO.out.mono ?_
    rintro e w2 ⟨rfl, hd2, hb2⟩
    have HB2 := Lib.hid hb2
    have hs2 := hd2.lt
    have HN := Lib.hid (next_any w2 w.heap.size a cap ts 0 9 (by decide) (by decide) hd2)
    clear hd2 hb2 HL HRO
    go_wp2_with fail
    refine HN.out.mono ?_
    rintro e w3 ⟨b, k3, hb13, rfl, hd3, hg3⟩
    have HB3 := Lib.hid (HB2.out.trans (below_dice hg3 (Nat.le_refl _) (Nat.le_of_lt hs2)))
    have hs3 := hd3.lt
    have HM := Lib.hid (mask_any w3 w.heap.size a cap ts k3 b (by omega) hd3)
    clear hd3 hg3 HN
    go_wp2_with fail
    refine HM.out.mono ?_
    rintro e w4 ⟨X, ax, cx, k4, rfl, hl4, hf4, ho4, hd4, hg4, hk4⟩
    have HX := Lib.hid (hs_masks hl4 (by omega) hf4 hk4)
    have HB4 := Lib.hid (HB3.out.trans (below_dice hg4 (Nat.le_refl _) (Nat.le_of_lt hs3)))
    have hs4 := hd4.lt
    have HOX := Lib.hid ho4
    have HD4 := Lib.hid hd4
    clear hd4 hg4 HM hl4 hf4 ho4 hk4
    have hb8 : b ≤ 8 := by omega
    obtain ⟨f, hf, hfl⟩ := mod_nat x 1000 (by decide)
    have HMO := Lib.hid (mod_any x 1000 (by decide) (by decide) w4)
    rw [show (x % (1000 : Int)) = (f : Int) from hf] at HMO
    have hsh := shl_small b (by omega)
    have hsf := shl_from b f hb8 hfl
    have HSP := Lib.hid (spread_hs HX.out (by omega) HOX.out.rowAt (p := f * 2 ^ b) (q := 1) (n := 2 ^ b) (from_le hb8 hfl) (by decide) (Nat.pow_le_pow_right (n := 2) (i := b) (j := 12) (by decide) (by omega)))
    have HONE := Lib.hid (spread_one HX.out (by omega) f hfl)
    obtain ⟨m, hm⟩ : ∃ m : Nat, 2 ^ b = m := ⟨_, rfl⟩
    have hm2 : m ≤ 4096 := by rw [← hm]; exact Nat.pow_le_pow_right (n := 2) (i := b) (j := 12) (by decide) (by omega)
    rw [hm] at hsh hsf HSP HONE
    obtain ⟨fr, hfr⟩ : ∃ fr : Nat, f * m = fr := ⟨_, rfl⟩
    rw [hfr] at hsf HSP HONE
    rw [show ((1 : Nat) : Int) = 1 from rfl] at HSP
    clear hf hfr
    go_wp2_with fail
    refine HMO.out.mono ?_
    rintro e w5 ⟨rfl, hw⟩
    obtain rfl := hw
    go_wp2_with fail
    refine HSP.out.mono ?_
    rintro e w5 ⟨⟨al, cl, rfl, hrl, hfl⟩, hb5⟩
    have HB5 := Lib.hid (HB4.out.trans (hb5.mono HB4.out.size))
    have HRL5 := Lib.hid hrl
    have HFL := Lib.hid hfl
    have HOX5 := Lib.hid (HOX.out.below hb5)
    have hd5 := HD4.out.below hb5
    have hs5 := hd5.lt
    have HN5 := Lib.hid (next_any w5 w.heap.size a cap ts k4 500 (by decide) (by decide) hd5)
    clear hrl hfl hb5 hd5 HSP HOX HD4
    go_wp2_with fail
    refine HN5.out.mono ?_
    rintro e w6 ⟨n, k6, hn500, rfl, hd6, hg6⟩
    have HB6 := Lib.hid (HB5.out.trans (below_dice hg6 (Nat.le_refl _) (Nat.le_of_lt hs5)))
    have hs6 := hd6.lt
    have HRL6 := Lib.hid (HRL5.out.grown hg6 (fun b o e => by have := HFL.out b o e; intro h; cases h; omega))
    have HOX6 := Lib.hid (HOX5.out.far hg6 hs3)
    have HN6 := Lib.hid (next_any w6 w.heap.size a cap ts k6 1000 (by decide) (by decide) hd6)
    clear hd6 hg6 HN5 HRL5 HOX5
    go_wp2_with fail
    refine HN6.out.mono ?_
    rintro e w7 ⟨p, k7, hp1000, rfl, hd7, hg7⟩
    have HB7 := Lib.hid (HB6.out.trans (below_dice hg7 (Nat.le_refl _) (Nat.le_of_lt hs6)))
    have hs7 := hd7.lt
    have HRL7 := Lib.hid (HRL6.out.grown hg7 (fun b o e => by have := HFL.out b o e; intro h; cases h; omega))
    have HOX7 := Lib.hid (HOX6.out.far hg7 hs3)
    have HN7 := Lib.hid (next_any w7 w.heap.size a cap ts k7 50 (by decide) (by decide) hd7)
    clear hd7 hg7 HN6 HRL6 HOX6
    go_wp2_with fail
    refine HN7.out.mono ?_
    rintro e w8 ⟨q, k8, hq50, rfl, hd8, hg8⟩
    have HB8 := Lib.hid (HB7.out.trans (below_dice hg8 (Nat.le_refl _) (Nat.le_of_lt hs7)))
    have HRL8 := Lib.hid (HRL7.out.grown hg8 (fun b o e => by have := HFL.out b o e; intro h; cases h; omega))
    have HOX8 := Lib.hid (HOX7.out.far hg8 hs3).rowAt
    have HS8 := Lib.hid (spread_hs HX.out (by omega) HOX8.out (p := p) (q := q) (n := n) (by omega) (by omega) (by omega))
    rw [hm] at HS8
    clear hd8 hg8 HN7 HRL7 HOX7 HFL
    go_wp2_with fail
    refine HS8.out.mono ?_
    rintro e w9 ⟨⟨am, cm, rfl, hrm, _⟩, hb9⟩
    have HB9 := Lib.hid (HB8.out.trans (hb9.mono HB8.out.size))
    have HRL9 := Lib.hid (HRL8.out.below hb9)
    have HRM9 := Lib.hid hrm
    have HAW := Lib.hid (hawake_yes w9)
    clear hrm hb9 HS8 HRL8
    go_wp2_with fail
    refine HAW.out.mono ?_
    rintro e w10 ⟨rfl, hb10⟩
    have HB10 := Lib.hid (HB9.out.trans (hb10.mono HB9.out.size))
    have HRL := Lib.hid (HRL9.out.below hb10)
    have HRM := Lib.hid (HRM9.out.below hb10)
    have hne : ((m : Int) != (m : Int)) = false := by simp
    have hSUM : HS.sum (fun v => HS.cnt (spF X p q) v n) m = n := by
      rw [← hm]
      exact HS.sum_cnt (fun i _ => by have := spF_lt X p q i; rwa [HX.out.len] at this)
    have HSUM := Lib.hid hSUM
    have hroL := HRL.out.room
    have hmoL := HRL.out.most
    have hroM := HRM.out.room
    have hmoM := HRM.out.most
    rw [tab_len] at hroL hroM
    clear hb10 HRL9 HRM9 HAW hSUM hm
    go_wp2_with fail
    go_loopw [10, 13] (fun d i wr => ∃ k r : Nat, i = .int .i64 (k : Int) ∧ k ≤ m ∧ d = .int .i64 (r : Int) ∧ r + HS.sum (fun v => HS.cnt (spF X p q) v n) k = n ∧ wr = w10) (fun _ i _ => m - (intOf i).toNat)
    case atStart => exact ⟨0, n, rfl, Nat.zero_le _, rfl, by simp [HS.sum], rfl⟩
    case round =>
      obtain ⟨k, r, rfl, hk, rfl, hrs, rfl⟩ := hrel
      have HRS := Lib.hid hrs
      clear hrs
      by_cases hkm : k < m
      · obtain ⟨lb, lo, rfl, lc⟩ := HRL.out.elN k (by rw [tab_len]; exact hkm)
        obtain ⟨mb, mo, rfl, mc⟩ := HRM.out.elN k (by rw [tab_len]; exact hkm)
        obtain ⟨c, hc⟩ : ∃ c, HS.cnt (spF X p q) k n = c := ⟨_, rfl⟩
        rw [el_tab _ _ _ hkm, HONE.out k hkm] at lc
        rw [el_tab _ _ _ hkm, hc] at mc
        have hle : HS.sum (fun v => HS.cnt (spF X p q) v n) (k + 1) ≤ n := by
          have := sum_mono (fun v => HS.cnt (spF X p q) v n) (show k + 1 ≤ m by omega)
          rw [HSUM.out] at this
          exact this
        rw [HS.sum, hc] at hle
        have hcr : c ≤ r := by have := HRS.out; omega
        have hrn : r ≤ n := by have := HRS.out; omega
        have hri : (r : Int) - (c : Int) = ((r - c : Nat) : Int) := by omega
        have hrw : wrap64 ((r : Int) - (c : Int)) = ((r - c : Nat) : Int) := by rw [hri]; exact wrap64_id _ (by omega)
        have HC := Lib.hid hc
        clear hc hle hri hrn
        go_wp2_with fail
        go_roundw
        case rel => exact ⟨k + 1, r - c, by go_num, hkm, congrArg (Value.int .i64) hrw, by rw [HS.sum, HC.out]; have := HRS.out; omega, by first | rfl | trivial⟩
        case measure => simp [intOf]; omega
      · obtain rfl : k = m := by omega
        have hr0 : r = 0 := by have := HRS.out; rw [HSUM.out] at this; omega
        subst hr0
        go_wp2_with fail
        go_ret
        exact ⟨rfl, HB10.out⟩
  · have hli : ¬ (ts.length : Int) ≤ 400 := by omega
    have hlt := light_any a ts.length cap w
    rw [decide_eq_false hli] at hlt
    have HL := Lib.hid hlt
    have HAW := Lib.hid (hawake_yes w)
    clear hl hlt hR
    go_enter Try.func6, Try.ntmps6
    go_wp2_with fail
    refine HL.out.mono ?_
    rintro e w1 ⟨rfl, hw⟩
    obtain rfl := hw.symm
    go_wp2_with fail
    refine HAW.out.mono ?_
    rintro e w2 ⟨rfl, hb⟩
    have HB := Lib.hid hb
    clear hb
    go_wp2_with fail
    go_ret
    exact ⟨rfl, HB.out⟩
end Go.Proofs.Ytodiokladojnjaa.B
