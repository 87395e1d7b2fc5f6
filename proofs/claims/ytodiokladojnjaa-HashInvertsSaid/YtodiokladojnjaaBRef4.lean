/- ref05.Mul. -/
import Derived.Test.YtodiokladojnjaaBRef3
import Derived.Test.YtodiokladojnjaaBMul
namespace Go.Proofs.Ytodiokladojnjaa.B
open Go Go.RowKit Go.Shelf
open BM (bt xs)

theorem M2.grownB {w W W' : World} {C D : Int} {a b : Option Addr} {ca cb : Nat} {R T : List V} {B : Nat} (h : M2 w C D a b ca cb R T W) (hb : Below B W W') (hB : w.heap.size + 1 + 1 + 1 ≤ B) : M2 w C D a b ca cb R T W' := by
  have c : ∀ {q o : Nat} {v : Value}, q < B → W.cell? ⟨q, o, none⟩ = some v → W'.cell? ⟨q, o, none⟩ = some v := fun {q o v} hq hc => (hb.cell (p := ⟨q, o, none⟩) hq).trans hc
  have f : ∀ {q o : Nat} {t : Bool}, q < B → W.frozen? ⟨q, o, none⟩ = t → W'.frozen? ⟨q, o, none⟩ = t := fun {q o t} hq hc => (hb.frozen (p := ⟨q, o, none⟩) hq).trans hc
  refine ⟨⟨c (by omega) h.pa.c0, c (by omega) h.pa.c1, f (by omega) h.pa.f0, f (by omega) h.pa.f1⟩, ⟨c (by omega) h.pb.c0, c (by omega) h.pb.c1, f (by omega) h.pb.f0, f (by omega) h.pb.f1⟩, ⟨c (by omega) h.pr.c0, c (by omega) h.pr.c1, f (by omega) h.pr.f0, f (by omega) h.pr.f1⟩,
    ⟨h.ra.room, h.ra.most, fun j hj => ?_⟩, ⟨h.rb.room, h.rb.most, fun j hj => ?_⟩, h.below.trans (hb.mono (by omega)), Nat.le_trans h.size hb.size, h.fa, h.fb⟩
  · obtain ⟨b', off, e, hc⟩ := h.ra.el j hj
    exact ⟨b', off, e, c (by have := h.fa b' off e (by omega); omega) hc⟩
  · obtain ⟨b', off, e, hc⟩ := h.rb.el j hj
    exact ⟨b', off, e, c (by have := h.fb b' off e (by omega); omega) hc⟩

set_option maxRecDepth 100000 in
set_option maxHeartbeats 1000000 in
theorem rmul_bad (C D : Int) (a b : Option Addr) (ca cb : Nat) (R T : List V) (w : World) (hA : Row w a R ca) (hB : Row w b T cb) (hbad : (validB C R && validB D T) = false) :
    Calls Try.prog 30 #[.agg #[.int .i64 C, .slice a R.length ca], .agg #[.int .i64 D, .slice b T.length cb]] w fun e W => e = .returned (.tuple #[.agg #[.int .i64 0, .slice none 0 0], .int .i64 1]) ∧ Below w.heap.size w W := by
  have hS := M2.start (C := C) (D := D) hA hB
  obtain ⟨w3, hw3⟩ : ∃ w3, (((w.alloc (.cells #[.int .i64 C, .slice a R.length ca] 49)).alloc (.cells #[.int .i64 D, .slice b T.length cb] 49)).alloc (.cells #[.int .i64 0, .slice none 0 0] 49)) = w3 := ⟨_, rfl⟩
  rw [hw3] at hS
  have hv1 := rvalid_any C a ca R w3 hS.ra
  have a0 := hS.pa.c0
  have a1 := hS.pa.c1
  have HS := Lib.hid hS
  clear hA hB hS
  cases hva : validB C R with
  | false =>
    rw [hva] at hv1
    have H1 := Lib.hid hv1
    clear hv1 hva hbad
    go_enter Try.func30, Try.ntmps30
    go_wp2_with fail
    refine H1.out.mono ?_
    rintro e w4 ⟨rfl, hb4⟩
    have S4 := HS.out.keep hb4
    obtain ⟨z1, z2⟩ := S4.zero
    have r0 := S4.pr.c0
    have r1 := S4.pr.c1
    have f0 := S4.pr.f0
    have f1 := S4.pr.f1
    have r1' : (w4.setCell ⟨w.heap.size + 1 + 1, 0, none⟩ (.int .i64 0)).cell? ⟨w.heap.size + 1 + 1, 1, none⟩ = some (.slice none 0 0) := (World.cell?_setCell_other _ _ _ _ (by intro e; cases e)).trans r1
    have Z1 := Lib.hid z1
    have Z2 := Lib.hid z2
    clear z1 z2 S4 hb4
    go_wp2_with fail
    exact bodyPost_ret (v := .tuple #[.agg #[.int .i64 0, .slice none 0 0], .int .i64 1]) (by simp [results, Try.results30, go_sem, Z1.out.c0, Z1.out.c1]) rfl ⟨rfl, Z2.out⟩
  | true =>
    rw [hva, Bool.true_and] at hbad
    rw [hva] at hv1
    have H1 := Lib.hid hv1
    have HBAD := Lib.hid hbad
    clear hv1 hva hbad
    go_enter Try.func30, Try.ntmps30
    go_wp2_with fail
    refine H1.out.mono ?_
    rintro e w4 ⟨rfl, hb4⟩
    have S4 := HS.out.keep hb4
    have hv2 := rvalid_any D b cb T w4 S4.rb
    rw [HBAD.out] at hv2
    have H2 := Lib.hid hv2
    have b0 := S4.pb.c0
    have b1 := S4.pb.c1
    have HS4 := Lib.hid S4
    clear hv2 hb4 S4
    go_wp2_with fail
    refine H2.out.mono ?_
    rintro e w5 ⟨rfl, hb5⟩
    have S5 := HS4.out.keep hb5
    obtain ⟨z1, z2⟩ := S5.zero
    have r0 := S5.pr.c0
    have r1 := S5.pr.c1
    have f0 := S5.pr.f0
    have f1 := S5.pr.f1
    have r1' : (w5.setCell ⟨w.heap.size + 1 + 1, 0, none⟩ (.int .i64 0)).cell? ⟨w.heap.size + 1 + 1, 1, none⟩ = some (.slice none 0 0) := (World.cell?_setCell_other _ _ _ _ (by intro e; cases e)).trans r1
    have Z1 := Lib.hid z1
    have Z2 := Lib.hid z2
    clear z1 z2 S5 hb5
    go_wp2_with fail
    exact bodyPost_ret (v := .tuple #[.agg #[.int .i64 0, .slice none 0 0], .int .i64 1]) (by simp [results, Try.results30, go_sem, Z1.out.c0, Z1.out.c1]) rfl ⟨rfl, Z2.out⟩
set_option maxRecDepth 100000 in
set_option maxHeartbeats 1000000 in
theorem rmul_good (C D : Nat) (a b : Option Addr) (ca cb : Nat) (R T : List V) (w : World) (hA : Row w a R ca) (hB : Row w b T cb) (hMA : MV C R) (hMB : MV D T) :
    Calls Try.prog 30 #[.agg #[.int .i64 (C : Int), .slice a R.length ca], .agg #[.int .i64 (D : Int), .slice b T.length cb]] w fun e W => (∃ v, e = .returned (.tuple #[v, .int .i64 (mulE C D R T)]) ∧ MatR w.heap.size W v (mulC C D R T) (mulR C D R T)) ∧ Below w.heap.size w W := by
  have hS := M2.start (C := (C : Int)) (D := (D : Int)) hA hB
  obtain ⟨w3, hw3⟩ : ∃ w3, (((w.alloc (.cells #[.int .i64 (C : Int), .slice a R.length ca] 49)).alloc (.cells #[.int .i64 (D : Int), .slice b T.length cb] 49)).alloc (.cells #[.int .i64 0, .slice none 0 0] 49)) = w3 := ⟨_, rfl⟩
  rw [hw3] at hS
  have hv1 := rvalid_any C a ca R w3 hS.ra
  rw [hMA.yes] at hv1
  have H1 := Lib.hid hv1
  have a0 := hS.pa.c0
  have a1 := hS.pa.c1
  have HS := Lib.hid hS
  have hva := hMA.yes
  have hvb := hMB.yes
  have l1 := hMA.r1
  have l2 := hMA.r2
  have l3 := hMB.r2
  clear hA hB hS hv1
  by_cases hCT : C = T.length
  · have e0 : mulE C D R T = 0 := by unfold mulE; rw [hva, hvb, Bool.true_and, if_pos rfl, if_pos (by omega)]
    have e1 : mulC C D R T = D := by unfold mulC; rw [if_pos e0]
    have e2 : mulR C D R T = tab R.length (fun k => BM.comb (el T) (el R k) T.length) := by unfold mulR; rw [if_pos e0]
    rw [e0, e1, e2]
    have hne : ((C : Int) != (T.length : Int)) = false := by rw [hCT]; simp
    clear e0 e1 e2 hva hvb
    have HCT := Lib.hid hCT
    clear hCT
    go_enter Try.func30, Try.ntmps30
    go_wp2_with fail
    refine H1.out.mono ?_
    rintro e w4 ⟨rfl, hb4⟩
    have S4 := HS.out.keep hb4
    have hv2 := rvalid_any D b cb T w4 S4.rb
    rw [hMB.yes] at hv2
    have H2 := Lib.hid hv2
    have b0 := S4.pb.c0
    have b1 := S4.pb.c1
    have HS4 := Lib.hid S4
    clear hv2 hb4 S4 a0 a1
    go_wp2_with fail
    refine H2.out.mono ?_
    rintro e w5 ⟨rfl, hb5⟩
    have S5 := HS4.out.keep hb5
    have a0 := S5.pa.c0
    have b1 := S5.pb.c1
    have a1 := S5.pa.c1
    have b0 := S5.pb.c0
    have HS5 := Lib.hid S5
    clear S5 hb5 H1 H2
    obtain ⟨y0, y1, y2, y3⟩ := box0 w5
    have hsz5 := HS5.out.size
    have hmk : Mk w (w5.alloc (.cells #[.int .i64 (D : Int), .slice none 0 0] 49)) w5.heap.size (w5.heap.size + 1) D [] :=
      ⟨⟨none, 0, MBox.new w5 (D : Int) none 0 0 _, Own.nil _ _⟩, HS5.out.below.alloc (by omega) _, by simp, by omega, by omega⟩
    have S6 := HS5.out.keep ((Below.refl _ w5).alloc (Nat.le_refl _) (.cells #[.int .i64 (D : Int), .slice none 0 0] 49))
    have HMK := Lib.hid hmk
    have HS6 := Lib.hid S6
    clear S6 hmk HS HS4 HS5
    go_wp2_with fail
    clear y0 y1 y2 y3 a0 a1 b0 b1
    go_loopw [7, 8, 9] (fun i _ _ wr => ∃ k : Nat, i = .int .i64 (k : Int) ∧ k ≤ R.length ∧ Mk w wr w5.heap.size (w5.heap.size + 1) D (tab k (fun k => BM.comb (el T) (el R k) T.length)) ∧ M2 w C D a b ca cb R T wr) (fun i _ _ _ => R.length - (intOf i).toNat)
    case atStart => exact ⟨0, rfl, Nat.zero_le _, HMK.out, HS6.out⟩
    case round =>
      clear HMK HS6
      obtain ⟨k, rfl, hk, hmk, hS⟩ := hrel
      have a1 := hS.pa.c1
      have HMK := Lib.hid hmk
      have HS := Lib.hid hS
      by_cases hlt : k < R.length
      · clear hmk
        have a0 := hS.pa.c0
        have b1 := hS.pb.c1
        obtain ⟨ab, ao, rfl, hcell⟩ := hS.ra.elV k hlt
        have hra := hS.ra.room
        have hra2 := hS.ra.most
        have hrb := hS.rb.room
        have hrb2 := hS.rb.most
        have hC64 : C ≤ 64 := by rw [HCT.out]; exact l3
        clear hS
        go_wp2_with fail
        go_loopw [8, 9] (fun x i wq => ∃ t : Nat, i = .int .i64 (t : Int) ∧ t ≤ C ∧ x = .int .u64 ((BM.comb (el T) (el R k) t).toNat : Int) ∧ wq = wr) (fun _ i _ => C - (intOf i).toNat)
        case atStart => exact ⟨0, rfl, Nat.zero_le _, rfl, rfl⟩
        case round =>
          obtain ⟨t, rfl, ht, rfl, hwq⟩ := hrel
          subst hwq
          by_cases hlt2 : t < C
          · obtain ⟨bb, bo, rfl, hcellb⟩ := HS.out.rb.elV t (by rw [← HCT.out]; exact hlt2)
            have htT : t < T.length := by rw [← HCT.out]; exact hlt2
            have hbit := bit_V (el R k) t
            rw [Nat.min_eq_left (show t ≤ 64 by omega)] at hbit
            cases hb : bt (el R k) t with
            | false =>
              rw [hb, show ((Go.Proofs.Ytodiokladojnjaa.B.b1 false).toNat : Int) = 0 from rfl] at hbit
              have HB := Lib.hid hb
              clear hb
              go_wp2_with fail
              go_roundw
              case rel =>
                refine ⟨t + 1, by go_num, hlt2, ?_, by first | rfl | trivial⟩
                rw [show BM.comb (el T) (el R k) (t + 1) = BM.comb (el T) (el R k) t from by show BM.comb (el T) (el R k) t ^^^ (if bt (el R k) t then el T t else 0) = _; rw [HB.out]; simp]
              case measure => simp [intOf]; omega
            | true =>
              rw [hb, show ((Go.Proofs.Ytodiokladojnjaa.B.b1 true).toNat : Int) = 1 from rfl] at hbit
              have HB := Lib.hid hb
              clear hb
              go_wp2_with fail
              go_roundw
              case rel =>
                refine ⟨t + 1, by go_num, hlt2, u64_v ?_, by first | rfl | trivial⟩
                rw [xor_V, show BM.comb (el T) (el R k) (t + 1) = BM.comb (el T) (el R k) t ^^^ el T t from by show BM.comb (el T) (el R k) t ^^^ (if bt (el R k) t then el T t else 0) = _; rw [HB.out]; simp]
              case measure => simp [intOf]; omega
          · obtain rfl : t = C := by omega
            obtain ⟨aa, cc, hbx, ho⟩ := HMK.out.box
            obtain ⟨y, hy⟩ : ∃ y, BM.comb (el T) (el R k) t = y := ⟨_, rfl⟩
            rw [hy]
            have HY := Lib.hid hy
            have m1 := hbx.c1
            have mf := hbx.f1
            have k1 := cell_later (.cells #[.int .u64 (y.toNat : Int)] 32) m1
            have HBB := Lib.hid hbx
            have HO := Lib.hid ho
            have hsz := HMK.out.size
            have hlen : (tab k (fun k => BM.comb (el T) (el R k) T.length)).length < 1000000 := by rw [tab_len]; omega
            clear hy hbx ho
            go_wp2_with (at_builtin; refine wpList_app1 (α := V) rfl _ _ rfl y (by rfl) (HO.out.alloc (.cells #[.int .u64 (y.toNat : Int)] 32)) rfl (cell_new _ _ _) hlen (by simp; omega) ?_; intro a3 cap3 w6 hown3 hg3 hb3 hw3; have k2 := (hb3.cell (p := ⟨w5.heap.size, 1, none⟩) (by show w5.heap.size < _; omega)).trans k1; have k3 := (hb3.frozen (p := ⟨w5.heap.size, 1, none⟩) (by show w5.heap.size < _; omega)).trans (frozen_later _ m1 mf); have HO3 := Lib.hid hown3; have HB3 := Lib.hid hb3; clear hown3 hg3 hb3 hw3)
            go_roundw
            case rel =>
              have hbb := ((Below.refl (w5.heap.size + 1) _).alloc hsz (.cells #[.int .u64 (y.toNat : Int)] 32)).trans HB3.out
              have hpush := HMK.out.push HBB.out HO3.out hbb
              have hyT : y = BM.comb (el T) (el R k) T.length := by rw [← HY.out]; exact congrArg _ HCT.out
              rw [hyT, tab_snoc (f := fun k => BM.comb (el T) (el R k) T.length)] at hpush
              refine ⟨k + 1, by go_num, hlt, hpush, HS.out.grownB (B := w5.heap.size) ((hbb.mono (Nat.le_succ w5.heap.size)).setCell (p := ⟨w5.heap.size, 1, none⟩) (Nat.le_refl _) _) hsz5⟩
            case measure => simp [intOf]; omega
      · obtain rfl : k = R.length := by omega
        obtain ⟨aa, cc, hbx, ho⟩ := hmk.box
        have m0 := hbx.c0
        have m1 := hbx.c1
        have r0 := hS.pr.c0
        have r1 := hS.pr.c1
        have f0 := hS.pr.f0
        have f1 := hS.pr.f1
        have r1' : (wr.setCell ⟨w.heap.size + 1 + 1, 0, none⟩ (.int .i64 (D : Int))).cell? ⟨w.heap.size + 1 + 1, 1, none⟩ = some (.slice none 0 0) := (World.cell?_setCell_other _ _ _ _ (by intro e; cases e)).trans r1
        have hset := hS.pr.set (C' := (D : Int)) (a' := aa) (n' := (tab R.length (fun k => BM.comb (el T) (el R k) T.length)).length) (cap' := cc)
        have HSET := Lib.hid hset
        have HO := Lib.hid ho
        clear hS hbx ho hset hmk
        go_wp2_with fail
        refine bodyPost_ret (v := .tuple #[.agg #[.int .i64 (D : Int), .slice aa (tab R.length (fun k => BM.comb (el T) (el R k) T.length)).length cc], .int .i64 0]) (by simp [results, Try.results30, go_sem, HSET.out.c0, HSET.out.c1]) rfl ⟨⟨_, rfl, aa, cc, rfl, ?_, ?_⟩, ?_⟩
        · exact HO.out.rowAt.boxed HS.out.pr
        · intro b' o' e
          subst e
          rcases HO.out.parts with ⟨e2, _⟩ | ⟨g, c2, e2, hB, _⟩
          · cases e2
          · cases e2; omega
        · exact (HS.out.below.setCell (p := ⟨w.heap.size + 1 + 1, 0, none⟩) (by show _ ≤ w.heap.size + 1 + 1; omega) _).setCell (p := ⟨w.heap.size + 1 + 1, 1, none⟩) (by show _ ≤ w.heap.size + 1 + 1; omega) _
  · have e0 : mulE C D R T = 7 := by unfold mulE; rw [hva, hvb, Bool.true_and, if_pos rfl, if_neg (by omega)]
    have e1 : mulC C D R T = 0 := by unfold mulC; rw [if_neg (by rw [e0]; decide)]
    have e2 : mulR C D R T = [] := by unfold mulR; rw [if_neg (by rw [e0]; decide)]
    rw [e0, e1, e2]
    have hne : ((C : Int) != (T.length : Int)) = true := by simp; omega
    clear e0 e1 e2 hva hvb
    have HCT := Lib.hid hCT
    clear hCT
    go_enter Try.func30, Try.ntmps30
    go_wp2_with fail
    refine H1.out.mono ?_
    rintro e w4 ⟨rfl, hb4⟩
    have S4 := HS.out.keep hb4
    have hv2 := rvalid_any D b cb T w4 S4.rb
    rw [hMB.yes] at hv2
    have H2 := Lib.hid hv2
    have b0 := S4.pb.c0
    have b1 := S4.pb.c1
    have HS4 := Lib.hid S4
    clear hv2 hb4 S4 a0 a1
    go_wp2_with fail
    refine H2.out.mono ?_
    rintro e w5 ⟨rfl, hb5⟩
    have S5 := HS4.out.keep hb5
    have a0 := S5.pa.c0
    have b1 := S5.pb.c1
    obtain ⟨z1, z2⟩ := S5.zero
    have r0 := S5.pr.c0
    have r1 := S5.pr.c1
    have f0 := S5.pr.f0
    have f1 := S5.pr.f1
    have r1' : (w5.setCell ⟨w.heap.size + 1 + 1, 0, none⟩ (.int .i64 0)).cell? ⟨w.heap.size + 1 + 1, 1, none⟩ = some (.slice none 0 0) := (World.cell?_setCell_other _ _ _ _ (by intro e; cases e)).trans r1
    have Z1 := Lib.hid z1
    have Z2 := Lib.hid z2
    clear z1 z2 S5 hb5
    go_wp2_with fail
    exact bodyPost_ret (v := .tuple #[.agg #[.int .i64 0, .slice none 0 0], .int .i64 7]) (by simp [results, Try.results30, go_sem, Z1.out.c0, Z1.out.c1]) rfl ⟨⟨_, rfl, MatR.none _ _⟩, Z2.out⟩
end Go.Proofs.Ytodiokladojnjaa.B
