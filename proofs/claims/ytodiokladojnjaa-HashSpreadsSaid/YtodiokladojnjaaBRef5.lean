/- ref05.Rank. -/
import Derived.Test.YtodiokladojnjaaBRef4
import Derived.Test.YtodiokladojnjaaBRank
namespace Go.Proofs.Ytodiokladojnjaa.B
open Go Go.RowKit Go.Shelf
open BM (bt St)

theorem step_no {m c n : Nat} {s : St} (hn : s.P.length = n) (hP : n ≤ m) (h : ∀ j, n ≤ j → j < m → bt (s.R j) c = false) : BM.step m c s = s := by
  have e : BM.piv m c s = m := BM.fnd_is (by omega) (by omega) (fun i h1 h2 => h i (by omega) h2) (fun h1 => by omega)
  unfold BM.step
  rw [e, if_neg (Nat.lt_irrefl m)]
theorem step_yes {m c n p : Nat} {s : St} (hn : s.P.length = n) (h1 : n ≤ p) (h2 : p < m) (hy : bt (s.R p) c = true) (h : ∀ j, n ≤ j → j < p → bt (s.R j) c = false) : BM.step m c s = BM.made p c s := by
  have e : BM.piv m c s = p := BM.fnd_is (by omega) (by omega) (fun i h1 h2 => h i (by omega) h2) (fun _ => hy)
  unfold BM.step
  rw [e, if_pos h2]

theorem MBox.grownTo {w W : World} {p B : Nat} {C : Int} {a : Option Addr} {n ca : Nat} (h : MBox w p C a n ca) (hb : Below B w W) (hp : p < B) : MBox W p C a n ca :=
  ⟨(hb.cell (p := ⟨p, 0, none⟩) hp).trans h.c0, (hb.cell (p := ⟨p, 1, none⟩) hp).trans h.c1, (hb.frozen (p := ⟨p, 0, none⟩) hp).trans h.f0, (hb.frozen (p := ⟨p, 1, none⟩) hp).trans h.f1⟩
/-- Rows of the call's own, and the matrix in a box. -/
structure RkSt (w W : World) (B g m cap : Nat) (C : Int) (a : Option Addr) (ca : Nat) (F : Nat → V) : Prop where
  box : MBox W w.heap.size C a m ca
  own : Own W B (.slice (some ⟨g, 0, none⟩) m cap) (tab m F)
  below : Below w.heap.size w W
  pos : w.heap.size < B
section
variable {w W : World} {B g m cap : Nat} {C : Int} {a : Option Addr} {ca : Nat} {F : Nat → V}
theorem RkSt.cell (h : RkSt w W B g m cap C a ca F) (k : Nat) (hk : k < m) : W.cell? ⟨g, k, none⟩ = some (.int .u64 ((F k).toNat : Int)) ∧ W.frozen? ⟨g, k, none⟩ = false := by
  have := h.own.cellV k (by rw [tab_len]; exact hk)
  rw [el_tab _ _ _ hk] at this
  exact ⟨this, h.own.free k (by rw [tab_len]; exact hk)⟩
theorem RkSt.bR (h : RkSt w W B g m cap C a ca F) (hm : 0 < m) : B ≤ g := (h.own.at 0 (by rw [tab_len]; exact hm)).1
theorem RkSt.set (h : RkSt w W B g m cap C a ca F) (hm : 0 < m) (j : Nat) (x : V) : RkSt w (W.setCell ⟨g, j, none⟩ (.int .u64 (x.toNat : Int))) B g m cap C a ca (upd F j x) := by
  have hb := h.bR hm
  have hp := h.pos
  refine ⟨h.box.other (show g ≠ w.heap.size by omega) _, ?_, h.below.setCell (p := ⟨g, j, none⟩) (by show _ ≤ g; omega) _, hp⟩
  have := h.own.setV j x
  rwa [tab_set] at this
theorem RkSt.drewN (h : RkSt w W B g m cap C a ca F) (n : Nat) : RkSt w (W.drewN n) B g m cap C a ca F := ⟨h.box.drewN n, h.own, belowN h.below n, h.pos⟩
theorem RkSt.as (h : RkSt w W B g m cap C a ca F) {F' : Nat → V} (hF : ∀ j, j < m → F j = F' j) : RkSt w W B g m cap C a ca F' := ⟨h.box, by have := h.own; rwa [tab_ext hF] at this, h.below, h.pos⟩
theorem RkSt.room (h : RkSt w W B g m cap C a ca F) : m ≤ cap ∧ cap ≤ 9223372036854775807 := h.own.room
end

/-- The rows from n + 1 to i have been cleared at c. -/
def hmid (F : Nat → V) (n c i : Nat) : Nat → V := fun j => if j < n + 1 then F j else mid F F n c i j
theorem hmid_0 (F : Nat → V) (n c : Nat) : hmid F n c (n + 1) = F := by
  funext j
  unfold hmid mid
  by_cases h : j < n + 1
  · rw [if_pos h]
  · rw [if_neg h, if_neg h]
theorem hmid_k (F : Nat → V) (n c i : Nat) : hmid F n c i i = F i := by
  unfold hmid
  split
  · rfl
  · exact mid_k _ _ _ _ _
theorem hmid_n (F : Nat → V) (n c i : Nat) : hmid F n c i n = F n := by
  unfold hmid; rw [if_pos (Nat.lt_succ_self n)]
theorem hmid_same {F : Nat → V} {n c i : Nat} (h : bt (F i) c = false) : hmid F n c (i + 1) = hmid F n c i := by
  funext j
  unfold hmid
  rw [mid_same (fun h2 => by rw [h] at h2; cases h2.2)]
theorem hmid_upd {F : Nat → V} {n c i : Nat} (hi : n + 1 ≤ i) (h : bt (F i) c = true) : upd (hmid F n c i) i (F i ^^^ F n) = hmid F n c (i + 1) := by
  have e := mid_upd (R := F) (x := F) (i := n) (c := c) (k := i) ⟨by omega, h⟩
  funext j
  unfold hmid
  rw [← e]
  unfold upd
  by_cases h1 : j = i
  · subst h1; rw [if_pos rfl, if_neg (by omega), if_pos rfl]
  · rw [if_neg h1, if_neg h1]
/-- F is the elimination's rows from the first that is not done. -/
def Ag (m : Nat) (F : Nat → V) (s : St) : Prop := ∀ j, s.P.length ≤ j → j < m → F j = s.R j
theorem Ag.step {m n p c : Nat} {F : Nat → V} {s : St} (h : Ag m F s) (hn : s.P.length = n) (h1 : n ≤ p) (h2 : p < m) : Ag m (hmid (BM.swp F n p) n c m) (BM.made p c s) := by
  intro j hj hjm
  have e : (BM.made p c s).P.length = n + 1 := by show (s.P ++ [c]).length = _; rw [List.length_append, hn]; rfl
  rw [e] at hj
  have sw : ∀ j, n ≤ j → j < m → BM.swp F n p j = BM.swp s.R n p j := by
    intro j h3 h4
    unfold BM.swp
    split
    · exact h p (by omega) h2
    · split
      · exact h n (by omega) (by omega)
      · exact h j (by omega) h4
  show _ = BM.adr (BM.swp s.R s.P.length p) (BM.swp s.R s.P.length p) s.P.length c j
  rw [hn]
  unfold hmid
  rw [if_neg (by omega)]
  unfold mid
  rw [if_pos hjm]
  unfold BM.adr
  rw [sw j (by omega) hjm, sw n (Nat.le_refl n) (by omega)]

def sk (R : List V) (k : Nat) : St := BM.run R.length ⟨el R, fun _ => 0, []⟩ k
theorem sk_le (R : List V) (k : Nat) : (sk R k).P.length ≤ R.length := run_len _ _ (Nat.zero_le _) _
def RkRel (w : World) (B g cap D : Nat) (a : Option Addr) (ca : Nat) (R : List V) (nv kv : Value) (W : World) : Prop :=
  ∃ (k : Nat) (F : Nat → V), kv = .int .i64 (k : Int) ∧ k ≤ D ∧ nv = .int .i64 ((sk R k).P.length : Int) ∧ Ag R.length F (sk R k) ∧ RkSt w W B g R.length cap D a ca F

set_option maxRecDepth 100000 in
set_option maxHeartbeats 1000000 in
/-- **ref05.Rank** -/
theorem rrank_any (C : Int) (a : Option Addr) (ca : Nat) (R : List V) (w : World) (hA : Row w a R ca) :
    Calls Try.prog 37 #[.agg #[.int .i64 C, .slice a R.length ca]] w fun e W => e = .returned (.int .i64 (rankN C R : Int)) ∧ Below w.heap.size w W := by
  have hbx := MBox.new w C a R.length ca 49
  have hb1 := (Below.refl w.heap.size w).alloc (Nat.le_refl _) (.cells #[.int .i64 C, .slice a R.length ca] 49)
  have hr1 := hA.alloc (.cells #[.int .i64 C, .slice a R.length ca] 49)
  obtain ⟨w1, hw1⟩ : ∃ w1, w.alloc (.cells #[.int .i64 C, .slice a R.length ca] 49) = w1 := ⟨_, rfl⟩
  have hs1 : w1.heap.size = w.heap.size + 1 := by rw [← hw1]; simp
  rw [hw1] at hbx hb1 hr1
  have hv1 := rvalid_any C a ca R w1 hr1
  have a0 := hbx.c0
  have a1 := hbx.c1
  have HBX := Lib.hid hbx
  have HB1 := Lib.hid hb1
  have HR1 := Lib.hid hr1
  have HS1 := Lib.hid hs1
  clear hA hbx hb1 hr1 hs1
  cases hva : validB C R with
  | false =>
    have e0 : rankN C R = 0 := by unfold rankN; rw [hva]; rfl
    rw [e0]
    rw [hva] at hv1
    have H1 := Lib.hid hv1
    clear hv1 hva e0
    go_enter Try.func37, Try.ntmps37
    go_wp2_with fail
    refine H1.out.mono ?_
    rintro e w2 ⟨rfl, hb2⟩
    have HB2 := Lib.hid (HB1.out.trans (hb2.mono HB1.out.size))
    clear hb2
    go_wp2_with fail
    go_ret
    exact ⟨rfl, HB2.out⟩
  | true =>
    obtain ⟨D, rfl, hM⟩ := MV.of hva
    have e0 : rankN D R = (sk R D).P.length := by unfold rankN sk sv; rw [hva, Int.toNat_natCast]; rfl
    rw [e0]
    rw [hva] at hv1
    have H1 := Lib.hid hv1
    have l1 := hM.r1
    have l2 := hM.r2
    have l4 := hM.c2
    clear hv1 hva e0
    go_enter Try.func37, Try.ntmps37
    go_wp2_with fail
    refine H1.out.mono ?_
    rintro e w2 ⟨rfl, hb2⟩
    have HB2 := Lib.hid (HB1.out.trans (hb2.mono HB1.out.size))
    have d0 := cell_below hb2 a0
    have d1 := cell_below hb2 a1
    have HR2 := Lib.hid (HR1.out.below hb2)
    have HX2 := Lib.hid (HBX.out.below hb2)
    have hsz2 : w.heap.size < w2.heap.size := by have := HS1.out; have := hb2.size; omega
    clear hb2 H1 a0 a1 HB1 HR1 HBX HS1
    go_wp2_with (at_builtin; refine wpList_appAny (α := V) rfl _ _ rfl (B := w2.heap.size) (zs := []) (ys := R) rfl (Own.nil _ _) rfl HR2.out (by show 0 + _ < 1000000; omega) (Nat.le_refl _) ?_; intro a3 cap3 w3 hown3 hb3; have HO3 := Lib.hid hown3; have HB3 := Lib.hid hb3; clear hown3 hb3)
    have ho3 : Own w3 w2.heap.size (.slice a3 R.length cap3) R := by have := HO3.out; simpa using this
    obtain ⟨g, hg3⟩ : ∃ g, a3 = some ⟨g, 0, none⟩ := by
      rcases ho3.parts with ⟨_, e2⟩ | ⟨g, c2, e2, _⟩
      · rw [e2] at l1; exact absurd l1 (by decide)
      · cases e2; exact ⟨g, rfl⟩
    subst hg3
    rw [← tab_el R] at ho3
    have hrk : RkSt w w3 w2.heap.size g R.length cap3 D a ca (el R) := ⟨HX2.out.grownTo HB3.out hsz2, by rw [tab_len] at ho3; exact ho3, HB2.out.trans (HB3.out.mono (Nat.le_of_lt hsz2)), hsz2⟩
    have HRK := Lib.hid hrk
    clear hrk ho3 HO3 HR2 HX2 HB2 HB3 d0 d1
    go_loopw [4, 5, 6, 7] (fun n k _ _ wr => RkRel w w2.heap.size g cap3 D a ca R n k wr) (fun _ k _ _ _ => D - (intOf k).toNat)
    case atStart => exact ⟨0, el R, rfl, Nat.zero_le _, rfl, fun _ _ _ => rfl, HRK.out⟩
    case round =>
      clear HRK
      obtain ⟨k, F, rfl, hk, rfl, hag, hs⟩ := hrel
      obtain ⟨n, hn⟩ : ∃ n, (sk R k).P.length = n := ⟨_, rfl⟩
      have hnm : n ≤ R.length := by rw [← hn]; exact sk_le R k
      rw [hn]
      have a0 := hs.box.c0
      obtain ⟨r1, r2⟩ := hs.room
      have hgB := hs.bR (by omega)
      have HS := Lib.hid hs
      have HN := Lib.hid hn
      have HAG := Lib.hid hag
      clear hs hn hag
      by_cases hlt : k < D
      · go_wp2_with fail
        clear a0
        go_loopw [6] (fun v wq => ∃ p : Nat, v = .int .i64 (p : Int) ∧ n ≤ p ∧ p ≤ R.length ∧ Hid (∀ j, n ≤ j → j < p → bt (F j) k = false) ∧ wq = wr) (fun v _ => R.length - (intOf v).toNat)
        case atStart => exact ⟨n, rfl, Nat.le_refl _, hnm, Lib.hid (fun j h1 h2 => absurd h2 (by omega)), rfl⟩
        case round =>
          obtain ⟨p, rfl, hp1, hp2, HNO, hwq⟩ := hrel
          subst hwq
          by_cases hlt2 : p < R.length
          · obtain ⟨cp, fp⟩ := HS.out.cell p hlt2
            have hbit := bit_V (F p) k
            rw [Nat.min_eq_left (show k ≤ 64 by omega)] at hbit
            cases hb : bt (F p) k with
            | false =>
              rw [hb, show ((Go.Proofs.Ytodiokladojnjaa.B.b1 false).toNat : Int) = 0 from rfl] at hbit
              have HB := Lib.hid hb
              clear hb
              go_wp2_with fail
              go_roundw
              case rel =>
                refine ⟨p + 1, by go_num, by omega, hlt2, Lib.hid (fun j h1 h2 => ?_), by first | rfl | trivial⟩
                by_cases e : j = p
                · subst e; exact HB.out
                · exact HNO.out j h1 (by omega)
              case measure => simp [intOf]; omega
            | true =>
              rw [hb, show ((Go.Proofs.Ytodiokladojnjaa.B.b1 true).toNat : Int) = 1 from rfl] at hbit
              have hst : BM.step R.length k (sk R k) = BM.made p k (sk R k) := step_yes HN.out hp1 hlt2 (by rw [← HAG.out p (by rw [HN.out]; exact hp1) hlt2]; exact hb) (fun j h1 h2 => by rw [← HAG.out j (by rw [HN.out]; exact h1) (by omega)]; exact HNO.out j h1 h2)
              have HST := Lib.hid hst
              have hpne : ¬ (p : Int) = (R.length : Int) := by omega
              have hnlt : n < R.length := by omega
              obtain ⟨cn, fn⟩ := HS.out.cell n hnlt
              have S1 := HS.out.set l1 n (F p)
              obtain ⟨w5, hw5⟩ : ∃ w5, wr.setCell ⟨g, n, none⟩ (.int .u64 ((F p).toNat : Int)) = w5 := ⟨_, rfl⟩
              rw [hw5] at S1
              obtain ⟨cq, fq⟩ := S1.cell p hlt2
              have S2 := S1.set l1 p (F n)
              obtain ⟨w6, hw6⟩ : ∃ w6, w5.setCell ⟨g, p, none⟩ (.int .u64 ((F n).toNat : Int)) = w6 := ⟨_, rfl⟩
              rw [hw6, swp_upd] at S2
              have HS2 := Lib.hid S2
              clear S1 S2 hb hst
              go_wp2_with fail
              go_region
              go_wp2_with fail
              go_loopw [7] (fun v wq => ∃ i : Nat, v = .int .i64 (i : Int) ∧ n + 1 ≤ i ∧ i ≤ R.length ∧ RkSt w wq w2.heap.size g R.length cap3 D a ca (hmid (BM.swp F n p) n k i)) (fun v _ => R.length - (intOf v).toNat)
              case atStart => exact ⟨n + 1, by go_num, Nat.le_refl _, hnlt, by rw [hmid_0]; exact HS2.out.drewN 1⟩
              case round =>
                clear cn fn fq cp fp hw5 hw6 hbit HS2
                obtain ⟨i, rfl, hi1, hi2, hs⟩ := hrel
                have HSI := Lib.hid hs
                by_cases hlt3 : i < R.length
                · have ci := (hs.cell i hlt3).1
                  have fi := (hs.cell i hlt3).2
                  rw [hmid_k] at ci
                  have cn := (hs.cell n hnlt).1
                  rw [hmid_n] at cn
                  obtain ⟨x, hx⟩ : ∃ x, BM.swp F n p i = x := ⟨_, rfl⟩
                  obtain ⟨y, hy⟩ : ∃ y, BM.swp F n p n = y := ⟨_, rfl⟩
                  rw [hx] at ci
                  rw [hy] at cn
                  have HX := Lib.hid hx
                  have HY := Lib.hid hy
                  clear hx hy
                  have hbit := bit_V x k
                  rw [Nat.min_eq_left (show k ≤ 64 by omega)] at hbit
                  cases hb : bt x k with
                  | false =>
                    rw [hb, show ((Go.Proofs.Ytodiokladojnjaa.B.b1 false).toNat : Int) = 0 from rfl] at hbit
                    have HB := Lib.hid hb
                    clear hb hs
                    go_wp2_with fail
                    go_roundw
                    case rel => exact ⟨i + 1, by go_num, by omega, hlt3, by rw [hmid_same (by rw [HX.out]; exact HB.out)]; exact HSI.out⟩
                    case measure => simp [intOf]; omega
                  | true =>
                    rw [hb, show ((Go.Proofs.Ytodiokladojnjaa.B.b1 true).toNat : Int) = 1 from rfl] at hbit
                    have hx1 := xor_V x y
                    obtain ⟨z, hz⟩ : ∃ z, x ^^^ y = z := ⟨_, rfl⟩
                    rw [hz] at hx1
                    have S1 := hs.set l1 i z
                    obtain ⟨w7, hw7⟩ : ∃ w7, wr.setCell ⟨g, i, none⟩ (.int .u64 (z.toNat : Int)) = w7 := ⟨_, rfl⟩
                    rw [hw7, ← hz, ← HX.out, ← HY.out, hmid_upd hi1 (by rw [HX.out]; exact hb)] at S1
                    have HS1 := Lib.hid S1
                    clear S1 hb hs hz
                    go_wp2_with fail
                    go_region
                    go_wp2_with fail
                    go_roundw
                    case rel => exact ⟨i + 1, by go_num, by omega, hlt3, HS1.out.drewN 1⟩
                    case measure => simp [intOf]; omega
                · obtain rfl : i = R.length := by omega
                  clear hs
                  go_wp2_with fail
                  go_roundw
                  case rel =>
                    have e : sk R (k + 1) = BM.made p k (sk R k) := HST.out
                    have e2 : (BM.made p k (sk R k)).P.length = n + 1 := by show ((sk R k).P ++ [k]).length = _; rw [List.length_append, HN.out]; rfl
                    exact ⟨k + 1, _, by go_num, hlt, by rw [e, e2]; go_num, by rw [e]; exact HAG.out.step HN.out hp1 hlt2, HSI.out⟩
                  case measure => simp [intOf]; omega
          · obtain rfl : p = R.length := by omega
            have hst : BM.step R.length k (sk R k) = sk R k := step_no HN.out hnm (fun j h1 h2 => by rw [← HAG.out j (by rw [HN.out]; exact h1) h2]; exact HNO.out j h1 h2)
            have HST := Lib.hid hst
            clear hst
            go_wp2_with fail
            go_roundw
            case rel =>
              have e : sk R (k + 1) = sk R k := HST.out
              exact ⟨k + 1, F, by go_num, hlt, by rw [e, HN.out], by rw [e]; exact HAG.out, HS.out⟩
            case measure => simp [intOf]; omega
      · obtain rfl : k = D := by omega
        go_wp2_with fail
        go_ret
        exact ⟨by rw [HN.out]; rfl, HS.out.below⟩
end Go.Proofs.Ytodiokladojnjaa.B
