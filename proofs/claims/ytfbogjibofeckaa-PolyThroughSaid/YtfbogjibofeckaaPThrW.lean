/- The statement PolyThrough: the walk. -/
import Derived.Test.YtfbogjibofeckaaPRefThru
import Derived.Test.YtfbogjibofeckaaPRootsW
namespace Go.Proofs.Ytfbogjibofeckaa.P
open Go Go.RowKit Go.Shelf

theorem tres_dist {xs ys : List PM.G} (hD : Dist xs) {e : Ending} {W : World} (h : TRes xs ys e W) : ∃ P a c, e = .returned (.tuple #[.slice a (List.length P) c, .int .i64 0]) ∧ Row W a P c ∧ PM.Can P ∧ P.length ≤ xs.length ∧ Thr xs ys P xs.length := by
  rcases h with ⟨h, _⟩ | ⟨_, h⟩
  · exact absurd hD h
  · exact h
theorem through_both (xs ys : List PM.G) : ∃ E r, Two 16 xs ys (LRes E r) ∧ Two 17 xs ys (LRes E r) := by
  by_cases hs : xs.length ≠ ys.length ∨ 255 < xs.length
  · exact ⟨7, [], fun a b ca cb w h1 h2 => (through_size a b ca cb xs ys w h1 h2 hs).mono fun _ _ h => ⟨h.1 ▸ LRes.none, h.2⟩, fun a b ca cb w h1 h2 => (rthrough_size a b ca cb xs ys w h1 h2 hs).mono fun _ _ h => ⟨h.1 ▸ LRes.none, h.2⟩⟩
  · by_cases hD : Dist xs
    · obtain ⟨r, hr⟩ := one_of [] (fun s : List PM.G => PM.Can s ∧ Thr xs ys s xs.length) (fun r s h1 h2 => thr_unique hD h1.1 h2.1 h1.2 h2.2)
      have key : ∀ e W, TRes xs ys e W → LRes 0 r e W := fun e W h => by
        obtain ⟨P, a, c, he, h1, h2, _, h4⟩ := tres_dist hD h
        have := hr P ⟨h2, h4⟩
        subst this
        exact ⟨a, c, he, h1⟩
      exact ⟨0, r, fun a b ca cb w h1 h2 => (through_any a b ca cb xs ys w h1 h2 (by omega) (by omega)).mono fun _ _ h => ⟨key _ _ h.1, h.2⟩, fun a b ca cb w h1 h2 => (rthrough_any a b ca cb xs ys w h1 h2 (by omega) (by omega)).mono fun _ _ h => ⟨key _ _ h.1, h.2⟩⟩
    · have key : ∀ e W, TRes xs ys e W → LRes 8 [] e W := fun e W h => by
        rcases h with ⟨_, h⟩ | ⟨h, _⟩
        · exact h ▸ LRes.none
        · exact absurd h hD
      exact ⟨8, [], fun a b ca cb w h1 h2 => (through_any a b ca cb xs ys w h1 h2 (by omega) (by omega)).mono fun _ _ h => ⟨key _ _ h.1, h.2⟩, fun a b ca cb w h1 h2 => (rthrough_any a b ca cb xs ys w h1 h2 (by omega) (by omega)).mono fun _ _ h => ⟨key _ _ h.1, h.2⟩⟩
theorem next128 (w : World) (dp : Nat) (a : Option Addr) (cap : Nat) (ts : List Int) (k : Nat) (hD : Dice w dp a cap ts k) :
    Calls Try.prog 19 #[.pointer (some ⟨dp, 0, none⟩), .int .i64 128] w (NextPost w dp a cap ts 128) := next_any w dp a cap ts k 128 (by decide) (by decide) hD
theorem next12 (w : World) (dp : Nat) (a : Option Addr) (cap : Nat) (ts : List Int) (k : Nat) (hD : Dice w dp a cap ts k) :
    Calls Try.prog 19 #[.pointer (some ⟨dp, 0, none⟩), .int .i64 12] w (NextPost w dp a cap ts 12) := next_any w dp a cap ts k 12 (by decide) (by decide) hD
/-- The places of the made points. -/
def pt (fr st j : Nat) : PM.G := ofN (fr + j * st)
theorem pt_val (fr st j : Nat) : IntKind.u8.wrap ((fr : Int) + (j : Int) * (st : Int)) = ((pt fr st j).v : Int) := by
  have e : IntKind.u8.wrap ((fr : Int) + (j : Int) * (st : Int)) = ((fr : Int) + (j : Int) * (st : Int)) % 256 := by simp [IntKind.wrap, IntKind.bits, IntKind.signed]
  rw [e]
  show _ = (((fr + j * st) % 256 : Nat) : Int)
  rw [Int.natCast_emod, Int.natCast_add, Int.natCast_mul]; rfl
theorem pt_dist {fr q n : Nat} {L : List PM.G} (hn : n < 12) (hl : L.length = n) (he : ∀ j, j < n → PM.el L j = pt fr (1 + 2 * q) j) : Dist L := by
  intro s t hst ht h
  rw [he s (by omega), he t (by omega)] at h
  have hv : (fr + s * (1 + 2 * q)) % 256 = (fr + t * (1 + 2 * q)) % 256 := congrArg PM.G.v h
  obtain ⟨u, rfl⟩ : ∃ u, t = s + u := ⟨t - s, by omega⟩
  rw [Nat.add_mul s u] at hv
  have hu : u = 1 ∨ u = 2 ∨ u = 3 ∨ u = 4 ∨ u = 5 ∨ u = 6 ∨ u = 7 ∨ u = 8 ∨ u = 9 ∨ u = 10 ∨ u = 11 := by omega
  generalize s * (1 + 2 * q) = z at hv
  rcases hu with rfl | rfl | rfl | rfl | rfl | rfl | rfl | rfl | rfl | rfl | rfl <;> omega

def TL (w0 : World) (fr st n : Nat) (lv iv : Value) (W : World) : Prop :=
  ∃ (k : Nat) (L : List PM.G) (aL : Option Addr) (cL : Nat), iv = .int .i64 (k : Int) ∧ k ≤ n ∧ lv = .slice aL k cL ∧ L.length = k ∧ (∀ j, j < k → PM.el L j = pt fr st j) ∧ Own W w0.heap.size (.slice aL k cL) L ∧ Below w0.heap.size w0 W

set_option maxRecDepth 100000 in
set_option maxHeartbeats 4000000 in
theorem polyThrough_any (a1 : Option Addr) (c1 : Nat) (xs : List PM.G) (a2 : Option Addr) (c2 : Nat) (ys : List PM.G) (a : Option Addr) (cap : Nat) (ts : List Int) (w : World) (h1 : Row w a1 xs c1) (h2 : Row w a2 ys c2) (hA : IRow w a ts cap) :
    Calls Try.prog 5 #[.slice a1 xs.length c1, .slice a2 ys.length c2, .slice a ts.length cap] w fun e W => e = .returned (.bool true) ∧ Below w.heap.size w W := by
  have m1 := h1.room
  have m2 := h1.most
  have m3 := h2.room
  have m4 := h2.most
  have HA := Lib.hid hA
  have H1 := Lib.hid h1
  have H2 := Lib.hid h2
  clear hA h1 h2
  by_cases hL : ts.length ≤ 400
  · have hLt : decide ((ts.length : Int) ≤ 400) = true := decide_eq_true (by omega)
    by_cases hx : xs.length ≤ 300
    · have t1 : decide ((300 : Int) < (xs.length : Int)) = false := decide_eq_false (by omega)
      by_cases hy : ys.length ≤ 300
      · have t2 : decide ((300 : Int) < (ys.length : Int)) = false := decide_eq_false (by omega)
        obtain ⟨E, r, hB1, hB2⟩ := through_both xs ys
        have HT1 := Lib.hid hB1
        have HT2 := Lib.hid hB2
        clear hB1 hB2
        go_enter Try.func5, Try.ntmps5
        go_wp2_with fail
        (with_reducible refine (light_any a ts.length cap w).mono ?_)
        rintro e w' ⟨rfl, rfl⟩
        rw [hLt]
        go_wp2_with fail
        (with_reducible refine (HT1.out.at _ _ _ _ _ H1.out H2.out).mono ?_)
        rintro e w1 ⟨⟨a3, c3, rfl, hr3⟩, hb1⟩
        have HR3 := Lib.hid hr3
        have H11 := Lib.hid (H1.out.below hb1)
        have H21 := Lib.hid (H2.out.below hb1)
        have HA1 := Lib.hid (HA.out.below hb1)
        have HB1 := Lib.hid hb1
        clear hr3 hb1
        go_wp2_with fail
        (with_reducible refine (HT2.out.at _ _ _ _ _ H11.out H21.out).mono ?_)
        rintro e w2 ⟨⟨a4, c4, rfl, hr4⟩, hb2⟩
        have HR4 := Lib.hid hr4
        have HR32 := Lib.hid (HR3.out.below hb2)
        have HA2 := Lib.hid (HA1.out.below hb2)
        have HB2 := Lib.hid (HB1.out.trans (hb2.mono HB1.out.size))
        clear hr4 hb2 H11 H21 HR3 HA1 HB1
        go_wp2_with fail
        (with_reducible refine (same_yes a3 a4 c3 c4 r r w2 HR32.out HR4.out rfl).mono ?_)
        rintro e w3 ⟨rfl, hb3⟩
        have HA3 := Lib.hid (HA2.out.below hb3)
        have HB3 := Lib.hid (HB2.out.trans (hb3.mono HB2.out.size))
        clear hb3 HA2 HB2 HR32 HR4
        go_wp2_with fail
        (with_reducible refine (roll_any a cap ts w3 HA3.out hL).mono ?_)
        rintro e w4 ⟨rfl, hd, hb⟩
        obtain ⟨dp, hdp⟩ : ∃ dp, w3.heap.size = dp := ⟨_, rfl⟩
        rw [hdp] at hd ⊢
        have HD := Lib.hid hd
        have HB4 := Lib.hid (HB3.out.trans (hb.mono HB3.out.size))
        have hwd : w'.heap.size ≤ dp := by rw [← hdp]; exact HB3.out.size
        clear hd hb HB3 HA3 hdp
        go_wp2_with fail
        (with_reducible refine (next256 w4 dp a cap ts 0 HD.out).mono ?_)
        rintro e w5 ⟨fr, k5, hfr, rfl, hd, hg⟩
        replace HD := Lib.hid hd
        have HB5 := Lib.hid (below_grown HB4.out hg HB4.out.size (fun k e => by cases e; exact hwd))
        clear hd hg HB4
        go_wp2_with fail
        (with_reducible refine (next128 w5 dp a cap ts k5 HD.out).mono ?_)
        rintro e w6 ⟨q, k6, hq, rfl, hd, hg⟩
        replace HD := Lib.hid hd
        have HB6 := Lib.hid (below_grown HB5.out hg HB5.out.size (fun k e => by cases e; exact hwd))
        clear hd hg HB5
        go_wp2_with fail
        (with_reducible refine (next12 w6 dp a cap ts k6 HD.out).mono ?_)
        rintro e w7 ⟨n, k7, hn, rfl, hd, hg⟩
        replace HD := Lib.hid hd
        have HB7 := Lib.hid (below_grown HB6.out hg HB6.out.size (fun k e => by cases e; exact hwd))
        have hdl := hd.lt
        clear hd hg HB6
        obtain ⟨st, hst⟩ : ∃ st, 1 + 2 * q = st := ⟨_, rfl⟩
        have hsti : (1 : Int) + 2 * (q : Int) = (st : Int) := by omega
        have hst256 : st < 256 := by omega
        have HSTQ := Lib.hid hst
        clear hst
        go_wp2_with fail
        go_loopw [14, 16] (fun lv iv wr => TL w7 fr st n lv iv wr) (fun _ iv _ => n - (intOf iv).toNat)
        case atStart => exact ⟨0, [], none, 0, rfl, Nat.zero_le _, rfl, rfl, fun j hj => absurd hj (Nat.not_lt_zero _), Own.nil _ _, Below.refl _ _⟩
        case round =>
          obtain ⟨k, L, aL, cL, rfl, hk, rfl, hl, hle, hO, hB⟩ := hrel
          have HLL := Lib.hid hl
          have HLE := Lib.hid hle
          have HO := Lib.hid hO
          have HBL := Lib.hid hB
          have hsz := hB.size
          clear hl hle hO hB
          by_cases hkn : k < n
          · have hmul : (k : Int) * (st : Int) ≤ 12 * 256 := by
              have h1 : (k : Int) * (st : Int) ≤ 12 * (st : Int) := Int.mul_le_mul_of_nonneg_right (by omega) (by omega)
              omega
            have hmul0 : 0 ≤ (k : Int) * (st : Int) := Int.mul_nonneg (by omega) (by omega)
            have hpv := pt_val fr st k
            have HPV := Lib.hid hpv
            clear hpv
            go_wp2_with (at_builtin; refine wpList_app1 rfl _ _ rfl (pt fr st k) rfl (show Own _ w7.heap.size (.slice aL k cL) L from HO.out.alloc _) rfl (cell_new _ _ _) HPV.out (by rw [HLL.out]; omega) (by simp; omega) ?_; intro a9 cap9 w9 hown9 hg9 hb9)
            go_roundw
            case rel =>
              refine ⟨k + 1, L ++ [pt fr st k], a9, cap9, by go_num, hkn, by rw [HLL.out], by rw [List.length_append, HLL.out]; rfl, fun j hj => ?_, ?_, HBL.out.trans (((Below.refl w7.heap.size wr).alloc hsz _).trans hb9)⟩
              · rw [PM.el_append, HLL.out]
                by_cases e : j < k
                · rw [if_pos e]; exact HLE.out j e
                · rw [if_neg e, show j = k by omega, Nat.sub_self]; rfl
              · have := hown9
                rw [List.length_append, HLL.out] at this
                exact this
            case measure => simp [intOf]; omega
          · obtain rfl : k = n := by omega
            have hDD := pt_dist (fr := fr) (q := q) (L := L) hn HLL.out (by rw [HSTQ.out]; exact HLE.out)
            have HDI := Lib.hid hDD
            have hdW := HD.out.below HBL.out
            have hLr := (show Own wr w7.heap.size (.slice aL L.length cL) L by rw [HLL.out]; exact HO.out).rowAt
            have hroomL := hLr.room
            have hmostL := hLr.most
            rw [HLL.out] at hroomL
            have hfL : ∀ b o, aL = some ⟨b, o, none⟩ → 0 < L.length → b ≠ dp := fun b o e h0 => by
              obtain ⟨g, e2, hg1, _⟩ := HO.out.fresh h0
              rw [e] at e2; cases e2; omega
            have HLR := Lib.hid hLr
            have HFL := Lib.hid hfL
            have HDW := Lib.hid hdW
            have HB8 := Lib.hid (HB7.out.trans (HBL.out.mono HB7.out.size))
            clear hDD hdW hLr hfL HD HB7 HBL HO HLE
            go_wp2_with fail
            (with_reducible refine (bytes_any wr dp a cap ts k7 k (by omega) HDW.out).mono ?_)
            rintro e w8 ⟨bs, aM, cM, k8, hbl, rfl, hoM, _, hg8⟩
            have hMr := (show Own w8 wr.heap.size (.slice aM bs.length cM) bs by rw [hbl]; exact hoM).rowAt
            have hroomM := hMr.room
            have hmostM := hMr.most
            rw [hbl] at hroomM
            have HMR := Lib.hid hMr
            have HBL2 := Lib.hid hbl
            have HLR8 := Lib.hid (show Row w8 aL L cL from by
              rcases Nat.eq_zero_or_pos L.length with h0 | h0
              · obtain rfl := List.length_eq_zero_iff.1 h0
                exact Row.nil _ _ _ hmostL
              · exact HLR.out.grown hg8 (fun b o e h => HFL.out b o e h0 (Option.some.inj h)))
            have HB9 := Lib.hid (below_grown HB8.out hg8 HB8.out.size (fun k e => by cases e; exact hwd))
            clear hMr hoM hbl hg8 HB8 HLR HDW
            have hth1 := through_any aL aM cL cM L bs w8 HLR8.out HMR.out (by rw [HBL2.out, HLL.out]) (by rw [HLL.out]; omega)
            rw [HLL.out, HBL2.out] at hth1
            have HTH1 := Lib.hid hth1
            clear hth1
            go_wp2_with fail
            (with_reducible refine HTH1.out.mono ?_)
            rintro e w9 ⟨ht, hb9⟩
            obtain ⟨P, aP, cP, rfl, hP, hPc, hPl, hPt⟩ := tres_dist HDI.out ht
            rw [HLL.out] at hPl hPt
            have hPr := hP.room
            have hPm := hP.most
            have HP := Lib.hid hP
            have HPC := Lib.hid hPc
            have HPT := Lib.hid hPt
            have HLR9 := Lib.hid (HLR8.out.below hb9)
            have HMR9 := Lib.hid (HMR.out.below hb9)
            have HB10 := Lib.hid (HB9.out.trans (hb9.mono HB9.out.size))
            have hth2 := rthrough_any aL aM cL cM L bs w9 HLR9.out HMR9.out (by rw [HBL2.out, HLL.out]) (by rw [HLL.out]; omega)
            rw [HLL.out, HBL2.out] at hth2
            have HTH2 := Lib.hid hth2
            clear hth2 ht hb9 hP hPc hPt HTH1 HLR8 HMR HB9
            go_wp2_with fail
            (with_reducible refine HTH2.out.mono ?_)
            rintro e w10 ⟨ht, hb10⟩
            obtain ⟨Q, aQ, cQ, rfl, hQ, hQc, hQl, hQt⟩ := tres_dist HDI.out ht
            have hPQ : Q = P := thr_unique HDI.out hQc HPC.out hQt (by rw [HLL.out]; exact HPT.out)
            subst hPQ
            have HQ := Lib.hid hQ
            have HP10 := Lib.hid (HP.out.below hb10)
            have HLR10 := Lib.hid (HLR9.out.below hb10)
            have HMR10 := Lib.hid (HMR9.out.below hb10)
            have HB11 := Lib.hid (HB10.out.trans (hb10.mono HB10.out.size))
            have hQr := hQ.room
            have hQm := hQ.most
            clear ht hb10 hQ hQc hQt HTH2 HP HLR9 HMR9 HB10
            go_wp2_with fail
            (with_reducible refine (awake_yes w10).mono ?_)
            rintro e w11 ⟨rfl, hb11⟩
            have HP11 := Lib.hid (HP10.out.below hb11)
            have HQ11 := Lib.hid (HQ.out.below hb11)
            have HLR11 := Lib.hid (HLR10.out.below hb11)
            have HMR11 := Lib.hid (HMR10.out.below hb11)
            have HB12 := Lib.hid (HB11.out.trans (hb11.mono HB11.out.size))
            clear hb11 HP10 HQ HLR10 HMR10 HB11
            go_wp2_with fail
            (with_reducible refine (same_yes aP aQ cP cQ Q Q w11 HP11.out HQ11.out rfl).mono ?_)
            rintro e w12 ⟨rfl, hb12⟩
            have HP12 := Lib.hid (HP11.out.below hb12)
            have HLR12 := Lib.hid (HLR11.out.below hb12)
            have HMR12 := Lib.hid (HMR11.out.below hb12)
            have HB13 := Lib.hid (HB12.out.trans (hb12.mono HB12.out.size))
            have hgt : decide ((k : Int) < (Q.length : Int)) = false := decide_eq_false (by omega)
            clear hb12 HP11 HQ11 HLR11 HMR11 HB12
            go_wp2_with fail
            go_loopw [18] (fun iv wr => ∃ i : Nat, iv = .int .i64 (i : Int) ∧ i ≤ k ∧ Below w12.heap.size w12 wr) (fun iv _ => k - (intOf iv).toNat)
            case atStart => exact ⟨0, rfl, Nat.zero_le _, Below.refl _ _⟩
            case round =>
              obtain ⟨i, rfl, hi, hBi⟩ := hrel
              have HBI := Lib.hid hBi
              have hLi := HLR12.out.below hBi
              have hMi := HMR12.out.below hBi
              have HPi := Lib.hid (HP12.out.below hBi)
              clear hBi
              by_cases hik : i < k
              · obtain ⟨lb, lo, rfl, hcl⟩ := hLi.el i (by rw [HLL.out]; exact hik)
                obtain ⟨mb, mo, rfl, hcm⟩ := hMi.el i (by rw [HBL2.out]; exact hik)
                obtain ⟨x, hxx⟩ : ∃ x, PM.el L i = x := ⟨_, rfl⟩
                obtain ⟨y, hyy⟩ : ∃ y, PM.el bs i = y := ⟨_, rfl⟩
                rw [hxx] at hcl
                rw [hyy] at hcm
                have hev := eval_any aP cP Q x wr.drew (HPi.out.drewN 1)
                have hpe := HPT.out.at' i hik
                rw [hxx, hyy] at hpe
                rw [hpe] at hev
                have HEV := Lib.hid hev
                clear hLi hMi hxx hyy hev hpe
                have hmx : Try.prog.follows .mixedOrders = true := by kernel_rfl
                go_wp2_with fail
                refine wp_region_held (S := fun W' => W'.cell? ⟨lb, lo + i, none⟩ = some (.int .u8 (x.v : Int)) ∧ W'.cell? ⟨mb, mo + i, none⟩ = some (.int .u8 (y.v : Int))) hmx ?_
                have hHeld := (show (fun W' : World => W'.cell? ⟨lb, lo + i, none⟩ = some (.int .u8 (x.v : Int)) ∧ W'.cell? ⟨mb, mo + i, none⟩ = some (.int .u8 (y.v : Int))) wr.drew from ⟨hcl, hcm⟩)
                refine wpAnyH_at 0 (some 121) (v := ?_) rfl rfl (by kernel_rfl) (by kernel_rfl) (by kernel_rfl) (fun _ _ _ h => h) (Or.inl ⟨by rfl, ?_⟩) hHeld ?_
                rotate_left
                · (intro W2 hSw; obtain ⟨j1, j2⟩ := hSw; go_simp; try with_reducible rfl)
                simp only [Act.put, List.setIfInBounds_toArray, List.set_cons_zero, List.set_cons_succ]
                refine wpAnyH_at 1 (some 122) (v := ?_) rfl rfl (by kernel_rfl) (by kernel_rfl) (by kernel_rfl) (fun _ _ _ h => h) (Or.inl ⟨by rfl, ?_⟩) hHeld ?_
                rotate_left
                · (intro W2 hSw; obtain ⟨j1, j2⟩ := hSw; go_simp; try with_reducible rfl)
                simp only [Act.put, List.setIfInBounds_toArray, List.set_cons_zero, List.set_cons_succ]
                refine wpAnyH_at 2 (some 123) (v := ?_) rfl rfl (by kernel_rfl) (by kernel_rfl) (by kernel_rfl) (fun _ _ _ h => h) (Or.inl ⟨by rfl, ?_⟩) hHeld ?_
                rotate_left
                · (intro W2 hSw; obtain ⟨j1, j2⟩ := hSw; go_simp; try with_reducible rfl)
                simp only [Act.put, List.setIfInBounds_toArray, List.set_cons_zero, List.set_cons_succ]
                refine wpAnyH_at 3 (some 124) (v := ?_) rfl rfl (by kernel_rfl) (by kernel_rfl) (by kernel_rfl) (fun _ _ _ h => h) (Or.inl ⟨by rfl, ?_⟩) hHeld ?_
                rotate_left
                · (intro W2 hSw; obtain ⟨j1, j2⟩ := hSw; go_simp; try with_reducible rfl)
                simp only [Act.put, List.setIfInBounds_toArray, List.set_cons_zero, List.set_cons_succ]
                refine wpAnyH_at 4 (some 125) (v := ?_) rfl rfl (by kernel_rfl) (by kernel_rfl) (by kernel_rfl) (fun _ _ _ h => h) (Or.inl ⟨by rfl, ?_⟩) hHeld ?_
                rotate_left
                · (intro W2 hSw; obtain ⟨j1, j2⟩ := hSw; go_simp; try with_reducible rfl)
                simp only [Act.put, List.setIfInBounds_toArray, List.set_cons_zero, List.set_cons_succ]
                refine wpAnyH_at 6 (some 127) (v := ?_) rfl rfl (by kernel_rfl) (by kernel_rfl) (by kernel_rfl) (fun _ _ _ h => h) (Or.inl ⟨by rfl, ?_⟩) hHeld ?_
                rotate_left
                · (intro W2 hSw; obtain ⟨j1, j2⟩ := hSw; go_simp; try with_reducible rfl)
                simp only [Act.put, List.setIfInBounds_toArray, List.set_cons_zero, List.set_cons_succ]
                refine wpAnyH_at 7 (some 128) (v := ?_) rfl rfl (by kernel_rfl) (by kernel_rfl) (by kernel_rfl) (fun _ _ _ h => h) (Or.inl ⟨by rfl, ?_⟩) hHeld ?_
                rotate_left
                · (intro W2 hSw; obtain ⟨j1, j2⟩ := hSw; go_simp; try with_reducible rfl)
                simp only [Act.put, List.setIfInBounds_toArray, List.set_cons_zero, List.set_cons_succ]
                refine wpAnyH_at 8 (some 129) (v := ?_) rfl rfl (by kernel_rfl) (by kernel_rfl) (by kernel_rfl) (fun _ _ _ h => h) (Or.inl ⟨by rfl, ?_⟩) hHeld ?_
                rotate_left
                · (intro W2 hSw; obtain ⟨j1, j2⟩ := hSw; go_simp; try with_reducible rfl)
                simp only [Act.put, List.setIfInBounds_toArray, List.set_cons_zero, List.set_cons_succ]
                refine wpAnyH_at 9 (some 130) (v := ?_) rfl rfl (by kernel_rfl) (by kernel_rfl) (by kernel_rfl) (fun _ _ _ h => h) (Or.inl ⟨by rfl, ?_⟩) hHeld ?_
                rotate_left
                · (intro W2 hSw; obtain ⟨j1, j2⟩ := hSw; go_simp; try with_reducible rfl)
                simp only [Act.put, List.setIfInBounds_toArray, List.set_cons_zero, List.set_cons_succ]
                refine wpAnyH_ready (rs := [5]) (by kernel_rfl) (by simp) ?_
                refine AllReadyH.cons rfl (fun K hK => ?_) AllReadyH.nil
                go_simp
                (with_reducible refine HEV.out.mono ?_)
                rintro e w13 ⟨rfl, hb13⟩
                have hcl3 : w13.cell? ⟨lb, lo + i, none⟩ = some (.int .u8 (x.v : Int)) := cell_below hb13 hcl
                have hcm3 : w13.cell? ⟨mb, mo + i, none⟩ = some (.int .u8 (y.v : Int)) := cell_below hb13 hcm
                have HBX := Lib.hid ((belowN HBI.out 1).trans (hb13.mono HBI.out.size))
                refine hK.out _ _ ⟨hcl3, hcm3⟩ (fun hHeld => ?_)
                clear hK K hb13
                refine wpAnyH_at 10 (some 131) (v := ?_) rfl rfl (by kernel_rfl) (by kernel_rfl) (by kernel_rfl) (fun _ _ _ h => h) (Or.inl ⟨by rfl, ?_⟩) hHeld ?_
                rotate_left
                · (intro W2 hSw; obtain ⟨j1, j2⟩ := hSw; go_simp; try with_reducible rfl)
                simp only [Act.put, List.setIfInBounds_toArray, List.set_cons_zero, List.set_cons_succ]
                refine wpAnyH_done (by kernel_rfl) ?_ _
                go_wp2_with fail
                go_roundw
                case rel => exact ⟨i + 1, by go_num, hik, HBX.out⟩
                case measure => simp [intOf]; omega
              · clear hLi hMi
                go_wp2_with fail
                go_ret
                exact ⟨rfl, HB13.out.trans (HBI.out.mono HB13.out.size)⟩
      · have t2 : decide ((300 : Int) < (ys.length : Int)) = true := decide_eq_true (by omega)
        go_enter Try.func5, Try.ntmps5
        go_wp2_with fail
        (with_reducible refine (light_any a ts.length cap w).mono ?_)
        rintro e w' ⟨rfl, rfl⟩
        rw [hLt]
        go_wp2_with fail
        (with_reducible refine (awake_yes w').mono ?_)
        rintro e w1 ⟨rfl, hb⟩
        go_wp2_with fail
        go_ret
        exact ⟨rfl, hb⟩
    · have t1 : decide ((300 : Int) < (xs.length : Int)) = true := decide_eq_true (by omega)
      go_enter Try.func5, Try.ntmps5
      go_wp2_with fail
      (with_reducible refine (light_any a ts.length cap w).mono ?_)
      rintro e w' ⟨rfl, rfl⟩
      rw [hLt]
      go_wp2_with fail
      (with_reducible refine (awake_yes w').mono ?_)
      rintro e w1 ⟨rfl, hb⟩
      go_wp2_with fail
      go_ret
      exact ⟨rfl, hb⟩
  · have hLt : decide ((ts.length : Int) ≤ 400) = false := decide_eq_false (by omega)
    go_enter Try.func5, Try.ntmps5
    go_wp2_with fail
    (with_reducible refine (light_any a ts.length cap w).mono ?_)
    rintro e w' ⟨rfl, rfl⟩
    rw [hLt]
    go_wp2_with fail
    (with_reducible refine (awake_yes w').mono ?_)
    rintro e w1 ⟨rfl, hb⟩
    go_wp2_with fail
    go_ret
    exact ⟨rfl, hb⟩
end Go.Proofs.Ytfbogjibofeckaa.P
