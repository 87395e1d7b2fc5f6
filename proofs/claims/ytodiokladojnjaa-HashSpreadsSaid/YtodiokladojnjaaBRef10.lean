/- ref05.Inverse. -/
import Derived.Test.YtodiokladojnjaaBRef9
namespace Go.Proofs.Ytodiokladojnjaa.B
open Go Go.RowKit Go.Shelf
open BM (bt St)

theorem run_grow (m : Nat) (s : St) (h : s.P.length ≤ m) (k : Nat) : ∀ j, (BM.run m s (k + j)).P.length ≤ (BM.run m s k).P.length + j
  | 0 => Nat.le_refl _
  | j + 1 => by
    have h1 := run_grow m s h k j
    have h2 := (step_len m (k + j) (BM.run m s (k + j)) (run_len m s h (k + j))).2
    have h3 : (BM.run m s (k + (j + 1))).P.length = (BM.step m (k + j) (BM.run m s (k + j))).P.length := rfl
    omega

/-- What Inverse works on. -/
structure InSt (w W : World) (gr cr gx cx q : Nat) (a : Option Addr) (ca : Nat) (L : List V) (F f : Nat → V) : Prop where
  m1 : M1 w L.length a ca L W
  rows : Own W (w.heap.size + 1 + 1) (.slice (some ⟨gr, 0, none⟩) L.length cr) (tab L.length F)
  right : Own W (w.heap.size + 1 + 1) (.slice (some ⟨gx, 0, none⟩) L.length cx) (tab L.length f)
  box : MBox W q L.length (some ⟨gx, 0, none⟩) L.length cx
  n1 : gr ≠ gx
  n2 : q ≠ gr
  n3 : q ≠ gx
section
variable {w W : World} {gr cr gx cx q : Nat} {a : Option Addr} {ca : Nat} {L : List V} {F f : Nat → V}
theorem InSt.cellR (h : InSt w W gr cr gx cx q a ca L F f) (k : Nat) (hk : k < L.length) : W.cell? ⟨gr, k, none⟩ = some (.int .u64 ((F k).toNat : Int)) ∧ W.frozen? ⟨gr, k, none⟩ = false := by
  have := h.rows.cellV k (by rw [tab_len]; exact hk)
  rw [el_tab _ _ _ hk] at this
  exact ⟨this, h.rows.free k (by rw [tab_len]; exact hk)⟩
theorem InSt.cellX (h : InSt w W gr cr gx cx q a ca L F f) (k : Nat) (hk : k < L.length) : W.cell? ⟨gx, k, none⟩ = some (.int .u64 ((f k).toNat : Int)) ∧ W.frozen? ⟨gx, k, none⟩ = false := by
  have := h.right.cellV k (by rw [tab_len]; exact hk)
  rw [el_tab _ _ _ hk] at this
  exact ⟨this, h.right.free k (by rw [tab_len]; exact hk)⟩
theorem InSt.bR (h : InSt w W gr cr gx cx q a ca L F f) (hm : 0 < L.length) : w.heap.size + 1 + 1 ≤ gr := (h.rows.at 0 (by rw [tab_len]; exact hm)).1
theorem InSt.bX (h : InSt w W gr cr gx cx q a ca L F f) (hm : 0 < L.length) : w.heap.size + 1 + 1 ≤ gx := (h.right.at 0 (by rw [tab_len]; exact hm)).1
theorem InSt.setR (h : InSt w W gr cr gx cx q a ca L F f) (hm : 0 < L.length) (j : Nat) (x : V) : InSt w (W.setCell ⟨gr, j, none⟩ (.int .u64 (x.toNat : Int))) gr cr gx cx q a ca L (upd F j x) f := by
  refine ⟨h.m1.other (h.bR hm) _ _, ?_, h.right.other _ ?_, h.box.other (show gr ≠ q from fun e => h.n2 e.symm) _, h.n1, h.n2, h.n3⟩
  · have := h.rows.setV j x
    rwa [tab_set] at this
  · intro e; simp [Value.ownBlock] at e; exact h.n1 e.symm
theorem InSt.setX (h : InSt w W gr cr gx cx q a ca L F f) (hm : 0 < L.length) (j : Nat) (x : V) : InSt w (W.setCell ⟨gx, j, none⟩ (.int .u64 (x.toNat : Int))) gr cr gx cx q a ca L F (upd f j x) := by
  refine ⟨h.m1.other (h.bX hm) _ _, h.rows.other _ ?_, ?_, h.box.other (show gx ≠ q from fun e => h.n3 e.symm) _, h.n1, h.n2, h.n3⟩
  · intro e; simp [Value.ownBlock] at e; exact h.n1 e
  · have := h.right.setV j x
    rwa [tab_set] at this
theorem InSt.drewN (h : InSt w W gr cr gx cx q a ca L F f) (n : Nat) : InSt w (W.drewN n) gr cr gx cx q a ca L F f := ⟨h.m1.drewN n, h.rows, h.right, h.box.drewN n, h.n1, h.n2, h.n3⟩
theorem InSt.as {F' f' : Nat → V} (h : InSt w W gr cr gx cx q a ca L F f) (hR : ∀ j, j < L.length → F j = F' j) (hr : ∀ j, j < L.length → f j = f' j) : InSt w W gr cr gx cx q a ca L F' f' :=
  ⟨h.m1, by have := h.rows; rwa [tab_ext hR] at this, by have := h.right; rwa [tab_ext hr] at this, h.box, h.n1, h.n2, h.n3⟩
theorem InSt.room (h : InSt w W gr cr gx cx q a ca L F f) : L.length ≤ cr ∧ cr ≤ 9223372036854775807 ∧ L.length ≤ cx ∧ cx ≤ 9223372036854775807 := ⟨h.rows.room.1, h.rows.room.2, h.right.room.1, h.right.room.2⟩
end

def uk (R : List V) (k : Nat) : St := BM.run R.length ⟨el R, unitF, []⟩ k
theorem uk_le (R : List V) (k : Nat) : (uk R k).P.length ≤ R.length := run_len _ _ (Nat.zero_le _) _
theorem b1_t : ((Go.Proofs.Ytodiokladojnjaa.B.b1 true).toNat : Int) = 1 := rfl
theorem b1_f : ((Go.Proofs.Ytodiokladojnjaa.B.b1 false).toNat : Int) = 0 := rfl
theorem uk_0 (R : List V) : (uk R 0).R = el R ∧ (uk R 0).r = unitF ∧ (uk R 0).P.length = 0 := ⟨rfl, rfl, rfl⟩
theorem uk_succ (R : List V) (k : Nat) : uk R (k + 1) = BM.step R.length k (uk R k) := rfl
theorem uk_sv (R : List V) : (sv R.length R unitF).r = (uk R R.length).r ∧ (sv R.length R unitF).P = (uk R R.length).P := ⟨rfl, rfl⟩
theorem uk_sing {R : List V} {k : Nat} {s : St} (hk : k < R.length) (hs : uk R k = s) (h : BM.step R.length k s = s) (hP : s.P.length = k) : (sv R.length R unitF).P.length < R.length := by
  have e : uk R (k + 1) = s := by show BM.step R.length k (uk R k) = s; rw [hs]; exact h
  have h1 := run_grow R.length ⟨el R, unitF, []⟩ (Nat.zero_le _) (k + 1) (R.length - (k + 1))
  rw [show k + 1 + (R.length - (k + 1)) = R.length by omega] at h1
  have h2 : (BM.run R.length ⟨el R, unitF, []⟩ (k + 1)).P.length = k := by show (uk R (k + 1)).P.length = k; rw [e]; exact hP
  rw [h2] at h1
  show (BM.run R.length ⟨el R, unitF, []⟩ R.length).P.length < R.length
  omega
def InRel (w : World) (gr cr gx cx q : Nat) (a : Option Addr) (ca : Nat) (R : List V) (kv : Value) (W : World) : Prop :=
  ∃ k : Nat, kv = .int .i64 (k : Int) ∧ k ≤ R.length ∧ (uk R k).P.length = k ∧ InSt w W gr cr gx cx q a ca R (uk R k).R (uk R k).r

attribute [local irreducible] BM.step BM.made BM.run BM.swp BM.adr mid uk bt tab sv BM.xs invE invC invR validB Go.Proofs.Ytodiokladojnjaa.B.b1 unitF
set_option maxRecDepth 100000 in
set_option maxHeartbeats 20000000 in
/-- **ref05.Inverse** -/
theorem rinverse_any (C : Int) (a : Option Addr) (ca : Nat) (R : List V) (w : World) (hA : Row w a R ca) :
    Calls Try.prog 28 #[.agg #[.int .i64 C, .slice a R.length ca]] w fun e W => (∃ v, e = .returned (.tuple #[v, .int .i64 (invE C R)]) ∧ MatR w.heap.size W v (invC C R) (invR C R)) ∧ Below w.heap.size w W := by
  have hS := M1.start (C := C) hA
  obtain ⟨w3, hw3⟩ : ∃ w3, ((w.alloc (.cells #[.int .i64 C, .slice a R.length ca] 49)).alloc (.cells #[.int .i64 0, .slice none 0 0] 49)) = w3 := ⟨_, rfl⟩
  rw [hw3] at hS
  have hv1 := rvalid_any C a ca R w3 hS.ra
  have a0 := hS.pa.c0
  have a1 := hS.pa.c1
  have HS := Lib.hid hS
  clear hA hS
  cases hva : validB C R with
  | false =>
    have e0 : invE C R = 1 := by unfold invE; rw [hva]; rfl
    have e1 : invC C R = 0 := by unfold invC; rw [e0]; rfl
    have e2 : invR C R = [] := by unfold invR; rw [e0]; rfl
    rw [e0, e1, e2]
    rw [hva] at hv1
    have H1 := Lib.hid hv1
    clear hv1 hva e0 e1 e2
    go_enter Try.func28, Try.ntmps28
    go_wp2_with fail
    refine H1.out.mono ?_
    rintro e w4 ⟨rfl, hb4⟩
    have S4 := HS.out.keep hb4
    obtain ⟨z1, z2, r1'⟩ := S4.stored 0 none 0 0
    have r0 := S4.pr.c0
    have r1 := S4.pr.c1
    have f0 := S4.pr.f0
    have f1 := S4.pr.f1
    have Z1 := Lib.hid z1
    have Z2 := Lib.hid z2
    clear z1 z2 S4 hb4
    go_wp2_with fail
    exact bodyPost_ret (v := .tuple #[.agg #[.int .i64 0, .slice none 0 0], .int .i64 1]) (by simp [results, Try.results28, go_sem, Z1.out.c0, Z1.out.c1]) rfl ⟨⟨_, rfl, MatR.none _ _⟩, Z2.out⟩
  | true =>
    obtain ⟨D, rfl, hM⟩ := MV.of hva
    rw [hva] at hv1
    have H1 := Lib.hid hv1
    have l1 := hM.r1
    have l2 := hM.r2
    have l3 := hM.c1
    have l4 := hM.c2
    by_cases hDR : (D : Int) = R.length
    · have hDR' : D = R.length := by omega
      subst hDR'
      have HVA := Lib.hid hva
      have HDI := Lib.hid hDR
      clear hv1 hva hDR
      go_enter Try.func28, Try.ntmps28
      go_wp2_with fail
      refine H1.out.mono ?_
      rintro e w4 ⟨rfl, hb4⟩
      have S4 := HS.out.keep hb4
      have HS4 := Lib.hid S4
      clear hb4 H1 a0 a1
      have a0 := S4.pa.c0
      have a1 := S4.pa.c1
      clear S4
      have hsz4 := HS4.out.size
      go_wp2_with (at_builtin; refine wpList_appAny (α := V) rfl _ _ rfl (B := w.heap.size + 1 + 1) (zs := []) (ys := R) rfl (Own.nil _ _) rfl HS4.out.ra (by show 0 + _ < 1000000; omega) hsz4 ?_; intro a3 cap3 w5 hown3 hb3; have HO3 := Lib.hid hown3; have HB3 := Lib.hid hb3; have HU := Lib.hid (runit_own R.length l1 l2 w5); clear hown3 hb3)
      have ho3 : Own w5 (w.heap.size + 1 + 1) (.slice a3 R.length cap3) R := by have := HO3.out; simpa using this
      obtain ⟨gr, hg3⟩ : ∃ g, a3 = some ⟨g, 0, none⟩ := by
        rcases ho3.parts with ⟨_, e2⟩ | ⟨g, c2, e2, _⟩
        · rw [e2] at l1; exact absurd l1 (by decide)
        · cases e2; exact ⟨g, rfl⟩
      subst hg3
      have hS5 : M1 w R.length a ca R w5 := HS4.out.grownB HB3.out (Nat.le_refl _)
      have HS5 := Lib.hid hS5
      have hgl : gr < w5.heap.size := lt_of_cell (ho3.cellV 0 (by omega))
      have HRO := Lib.hid ho3
      have hgr5 := hgl
      clear hS5 ho3 HO3 HB3 HS4 a0 a1
      refine HU.out.mono ?_
      rintro e w6 ⟨⟨gx, cx, rfl, ho6⟩, hb6⟩
      have hsz5 := HS5.out.size
      have hS6 := HS5.out.keep hb6
      have hr6 := HRO.out.below hb6
      have hgxl : gx < w6.heap.size := lt_of_cell (ho6.cellV 0 (by rw [tab_len]; omega))
      have hgxB : w5.heap.size + 1 + 1 ≤ gx := (ho6.at 0 (by rw [tab_len]; omega)).1
      have hsz6 := hS6.size
      have hg56 := hb6.size
      have HS6 := Lib.hid hS6
      have HR6 := Lib.hid hr6
      have HO6 := Lib.hid ho6
      clear hS6 hr6 ho6 hb6 HS5 HRO HU
      have hbq := MBox.new w6 (R.length : Int) (some ⟨gx, 0, none⟩) R.length cx 49
      have b0 := (MBox.new w6 0 none 0 0 49).c0
      have b1' := (MBox.new w6 0 none 0 0 49).c1
      have b2 := (MBox.new w6 0 none 0 0 49).f0
      have b3 := (MBox.new w6 0 none 0 0 49).f1
      have HBQ := Lib.hid hbq
      clear hbq
      go_wp2_with fail
      clear b0 b1' b2 b3
      have hin : InSt w (w6.alloc (.cells #[.int .i64 (R.length : Int), .slice (some ⟨gx, 0, none⟩) R.length cx] 49)) gr cap3 gx cx w6.heap.size a ca R (uk R 0).R (uk R 0).r :=
        ⟨HS6.out.keep ((Below.refl _ w6).alloc (Nat.le_refl _) _), by rw [(uk_0 R).1, tab_el]; exact HR6.out.alloc _, by rw [(uk_0 R).2.1]; exact (HO6.out.alloc _).mono (by omega), HBQ.out, by omega, by omega, by omega⟩
      have HIN := Lib.hid hin
      obtain ⟨qq, hqq⟩ : ∃ qq, w6.heap.size = qq := ⟨_, rfl⟩
      rw [hqq] at HIN ⊢
      clear hin HS6 HR6 HO6 HBQ hgl hgxl hgxB hsz6 hsz4 hqq hsz5 hg56 hgr5
      go_loopw [8, 9, 10] (fun kv _ _ wr => InRel w gr cap3 gx cx qq a ca R kv wr) (fun kv _ _ _ => R.length - (intOf kv).toNat)
      case atStart => exact ⟨0, rfl, Nat.zero_le _, (uk_0 R).2.2, HIN.out⟩
      case round =>
        clear HIN
        obtain ⟨k, rfl, hk, hpk, hs⟩ := hrel
        obtain ⟨s, hss⟩ : ∃ s, uk R k = s := ⟨_, rfl⟩
        rw [hss] at hpk hs
        obtain ⟨r1, r2, r3, r4⟩ := hs.room
        have c1 := hs.box.c1
        have HS := Lib.hid hs
        have HN := Lib.hid hpk
        have HSS := Lib.hid hss
        clear hs hpk hss
        by_cases hlt : k < R.length
        · go_wp2_with fail
          go_loopw [9] (fun pv wz => ∃ p : Nat, pv = .int .i64 (p : Int) ∧ k ≤ p ∧ p ≤ R.length ∧ Hid (∀ j, k ≤ j → j < p → bt (s.R j) k = false) ∧ wz = wr) (fun pv _ => R.length - (intOf pv).toNat)
          case atStart => exact ⟨k, rfl, Nat.le_refl _, hk, Lib.hid (fun j h1 h2 => absurd h2 (by omega)), rfl⟩
          case round => as_aux_lemma =>
            obtain ⟨p, rfl, hp1, hp2, HNO, hwz⟩ := hrel
            subst hwz
            by_cases hlt2 : p < R.length
            · obtain ⟨cp1, fp1⟩ := HS.out.cellR p hlt2
              have hbit := bit_V (s.R p) k
              rw [Nat.min_eq_left (show k ≤ 64 by omega)] at hbit
              cases hb : bt (s.R p) k with
              | false =>
                rw [hb, b1_f] at hbit
                have HB := Lib.hid hb
                clear hb c1
                go_wp2_with fail
                go_roundw
                case rel =>
                  refine ⟨p + 1, by go_num, by omega, hlt2, Lib.hid (fun j h1 h2 => ?_), by first | rfl | trivial⟩
                  by_cases e : j = p
                  · subst e; exact HB.out
                  · exact HNO.out j h1 (by omega)
                case measure => simp [intOf]; omega
              | true =>
                rw [hb, b1_t] at hbit
                have hst : BM.step R.length k s = BM.made p k s := step_yes HN.out hp1 hlt2 hb HNO.out
                have HST := Lib.hid hst
                have hpne : ¬ (p : Int) = (R.length : Int) := by omega
                have hpb : ((p : Int) == (R.length : Int)) = false := by rw [beq_eq_false_iff_ne]; omega
                obtain ⟨cn1, fn1⟩ := HS.out.cellR k hlt
                have S1 := HS.out.setR l1 k (s.R p)
                obtain ⟨w5, hw5⟩ : ∃ w5, wr.setCell ⟨gr, k, none⟩ (.int .u64 ((s.R p).toNat : Int)) = w5 := ⟨_, rfl⟩
                rw [hw5] at S1
                obtain ⟨cq1, fq1⟩ := S1.cellR p hlt2
                have S2 := S1.setR l1 p (s.R k)
                obtain ⟨w6, hw6⟩ : ∃ w6, w5.setCell ⟨gr, p, none⟩ (.int .u64 ((s.R k).toNat : Int)) = w6 := ⟨_, rfl⟩
                rw [hw6, swp_upd] at S2
                have d1 := S2.box.c1
                have hj1 : w6.cell? ⟨gx, k, none⟩ = some (.int .u64 ((s.r k).toNat : Int)) := (S2.cellX k hlt).1
                have hj2 := (S2.cellX k hlt).2
                have hm1 : w6.cell? ⟨gx, p, none⟩ = some (.int .u64 ((s.r p).toNat : Int)) := (S2.cellX p hlt2).1
                have S3 := S2.setX l1 k (s.r p)
                obtain ⟨w7, hw7⟩ : ∃ w7, w6.setCell ⟨gx, k, none⟩ (.int .u64 ((s.r p).toNat : Int)) = w7 := ⟨_, rfl⟩
                rw [hw7] at S3
                have d2 := S3.box.c1
                obtain ⟨ho1, ho2⟩ := S3.cellX p hlt2
                have S4 := S3.setX l1 p (s.r k)
                obtain ⟨w8, hw8⟩ : ∃ w8, w7.setCell ⟨gx, p, none⟩ (.int .u64 ((s.r k).toNat : Int)) = w8 := ⟨_, rfl⟩
                rw [hw8, swp_upd] at S4
                have HS5 := Lib.hid S4
                clear S1 S2 S3 S4 hb hst c1
                go_wp2_with fail
                go_region
                go_wp2_with fail
                go_region
                go_wp2_with fail
                go_loopw [10] (fun iv wz => ∃ i : Nat, iv = .int .i64 (i : Int) ∧ i ≤ R.length ∧ InSt w wz gr cap3 gx cx qq a ca R (mid (BM.swp s.R k p) (BM.swp s.R k p) k k i) (mid (BM.swp s.R k p) (BM.swp s.r k p) k k i)) (fun iv _ => R.length - (intOf iv).toNat)
                case atStart => exact ⟨0, rfl, Nat.zero_le _, by rw [mid_0, mid_0]; exact HS5.out.drewN 2⟩
                case round => as_aux_lemma =>
                  clear hpb hpne cn1 fn1 fq1 cq1 cp1 fp1 hj1 hj2 hm1 ho1 ho2 hw5 hw6 hw7 hw8 hbit HS5 d1 d2
                  obtain ⟨i, rfl, hi2, hs⟩ := hrel
                  by_cases hlt3 : i < R.length
                  · have HSI := Lib.hid hs
                    by_cases hin : i = k
                    · subst hin
                      clear hs
                      go_wp2_with fail
                      go_roundw
                      case rel => exact ⟨i + 1, by go_num, hlt3, by rw [mid_same (fun h => h.1 rfl), mid_same (fun h => h.1 rfl)]; exact HSI.out⟩
                      case measure => simp [intOf]; omega
                    · have hne : ¬ (i : Int) = (k : Int) := by omega
                      obtain ⟨ci, fi⟩ := hs.cellR i hlt3
                      obtain ⟨cn, _⟩ := hs.cellR k hlt
                      rw [mid_k] at ci
                      rw [mid_i] at cn
                      obtain ⟨x, hx⟩ : ∃ x, BM.swp s.R k p i = x := ⟨_, rfl⟩
                      obtain ⟨y, hy⟩ : ∃ y, BM.swp s.R k p k = y := ⟨_, rfl⟩
                      rw [hx] at ci
                      rw [hy] at cn
                      have HX := Lib.hid hx
                      have HY := Lib.hid hy
                      clear hx hy
                      have hbit := bit_V x k
                      rw [Nat.min_eq_left (show k ≤ 64 by omega)] at hbit
                      cases hb : bt x k with
                      | false =>
                        rw [hb, b1_f] at hbit
                        have HB := Lib.hid hb
                        clear hb hs
                        go_wp2_with fail
                        go_roundw
                        case rel =>
                          have hno : ¬ (i ≠ k ∧ bt (BM.swp s.R k p i) k = true) := by rw [HX.out, HB.out]; intro h; cases h.2
                          exact ⟨i + 1, by go_num, hlt3, by rw [mid_same hno, mid_same hno]; exact HSI.out⟩
                        case measure => simp [intOf]; omega
                      | true =>
                        rw [hb, b1_t] at hbit
                        have hx1 := xor_V x y
                        obtain ⟨z, hz⟩ : ∃ z, x ^^^ y = z := ⟨_, rfl⟩
                        rw [hz] at hx1
                        have S1 := hs.setR l1 i z
                        obtain ⟨w9, hw9⟩ : ∃ w9, wr.setCell ⟨gr, i, none⟩ (.int .u64 (z.toNat : Int)) = w9 := ⟨_, rfl⟩
                        rw [hw9] at S1
                        have d1 := S1.box.c1
                        obtain ⟨ei, ki⟩ := S1.cellX i hlt3
                        obtain ⟨en, _⟩ := S1.cellX k hlt
                        rw [mid_k] at ei
                        rw [mid_i] at en
                        obtain ⟨x2, hx2⟩ : ∃ x, BM.swp s.r k p i = x := ⟨_, rfl⟩
                        obtain ⟨y2, hy2⟩ : ∃ y, BM.swp s.r k p k = y := ⟨_, rfl⟩
                        rw [hx2] at ei
                        rw [hy2] at en
                        have hx3 := xor_V x2 y2
                        obtain ⟨z2, hz2⟩ : ∃ z, x2 ^^^ y2 = z := ⟨_, rfl⟩
                        rw [hz2] at hx3
                        have S2 := S1.setX l1 i z2
                        obtain ⟨w10, hw10⟩ : ∃ w10, w9.setCell ⟨gx, i, none⟩ (.int .u64 (z2.toNat : Int)) = w10 := ⟨_, rfl⟩
                        rw [hw10] at S2
                        have hh : i ≠ k ∧ bt (BM.swp s.R k p i) k = true := ⟨hin, by rw [HX.out]; exact hb⟩
                        have S3 : InSt w w10 gr cap3 gx cx qq a ca R (mid (BM.swp s.R k p) (BM.swp s.R k p) k k (i + 1)) (mid (BM.swp s.R k p) (BM.swp s.r k p) k k (i + 1)) := by
                          rw [← mid_upd hh, ← mid_upd hh, HX.out, HY.out, hx2, hy2, hz, hz2]
                          exact S2
                        have HS3 := Lib.hid S3
                        clear S1 S2 S3 hb hs hz hz2 hx2 hy2
                        go_wp2_with fail
                        go_region
                        go_wp2_with fail
                        go_region
                        go_wp2_with fail
                        go_roundw
                        case rel => exact ⟨i + 1, by go_num, hlt3, HS3.out.drewN 2⟩
                        case measure => simp [intOf]; omega
                  · obtain rfl : i = R.length := by omega
                    have hfin := hs.as (F' := BM.adr (BM.swp s.R k p) (BM.swp s.R k p) k k) (f' := BM.adr (BM.swp s.R k p) (BM.swp s.r k p) k k) (fun j hj => by unfold mid; rw [if_pos hj]) (fun j hj => by unfold mid; rw [if_pos hj])
                    have HF := Lib.hid hfin
                    clear hs hfin
                    go_wp2_with fail
                    go_roundw
                    case rel =>
                      have e : uk R (k + 1) = ⟨BM.adr (BM.swp s.R k p) (BM.swp s.R k p) k k, BM.adr (BM.swp s.R k p) (BM.swp s.r k p) k k, s.P ++ [k]⟩ := by
                        rw [uk_succ, HSS.out, HST.out]
                        unfold BM.made
                        rw [HN.out]
                      exact ⟨k + 1, by go_num, hlt, by rw [e]; show (s.P ++ [k]).length = _; rw [List.length_append, HN.out]; rfl, by rw [e]; exact HF.out⟩
                    case measure => simp [intOf]; omega
            · have hk' := hlt
              obtain rfl : p = R.length := by omega
              have hst : BM.step R.length k s = s := step_no HN.out hk HNO.out
              have hsing : (sv R.length R unitF).P.length < R.length := uk_sing hk' HSS.out hst HN.out
              have e0 : invE R.length R = 6 := by unfold invE; rw [HVA.out, if_pos rfl, if_pos rfl, Int.toNat_natCast, if_pos hsing]
              have e1 : invC R.length R = 0 := by unfold invC; rw [e0]; rfl
              have e2 : invR R.length R = [] := by unfold invR; rw [e0]; rfl
              have E0 := Lib.hid e0
              have E1 := Lib.hid e1
              have E2 := Lib.hid e2
              have hM1 := HS.out.m1
              obtain ⟨z1, z2, r1'⟩ := hM1.stored 0 none 0 0
              have r0 := hM1.pr.c0
              have r1 := hM1.pr.c1
              have f0 := hM1.pr.f0
              have f1 := hM1.pr.f1
              have Z1 := Lib.hid z1
              have Z2 := Lib.hid z2
              clear z1 z2 hM1 e0 e1 e2 hst hsing
              go_wp2_with fail
              exact bodyPost_ret (v := .tuple #[.agg #[.int .i64 0, .slice none 0 0], .int .i64 6]) (by simp [results, Try.results28, go_sem, Z1.out.c0, Z1.out.c1]) rfl ⟨⟨_, by rw [E0.out], by rw [E1.out, E2.out]; exact MatR.none _ _⟩, Z2.out⟩
        · obtain rfl : k = R.length := by omega
          have hsing : ¬ (sv R.length R unitF).P.length < R.length := by
            rw [(uk_sv R).2, HSS.out, HN.out]; omega
          have e0 : invE R.length R = 0 := by unfold invE; rw [HVA.out, if_pos rfl, if_pos rfl, Int.toNat_natCast, if_neg hsing]
          have e1 : invC R.length R = R.length := by unfold invC; rw [if_pos e0]
          have e2 : invR R.length R = tab R.length s.r := by unfold invR; rw [if_pos e0, Int.toNat_natCast, (uk_sv R).1, HSS.out]
          have E0 := Lib.hid e0
          have E1 := Lib.hid e1
          have E2 := Lib.hid e2
          have hM1 := HS.out.m1
          have m0 := HS.out.box.c0
          obtain ⟨z1, z2, r1'⟩ := hM1.stored R.length (some ⟨gx, 0, none⟩) R.length cx
          have r0 := hM1.pr.c0
          have r1 := hM1.pr.c1
          have f0 := hM1.pr.f0
          have f1 := hM1.pr.f1
          have Z1 := Lib.hid z1
          have Z2 := Lib.hid z2
          have HRT := Lib.hid HS.out.right
          have hgxB := HS.out.bX l1
          have HM1 := Lib.hid hM1
          clear z1 z2 hM1 e0 e1 e2 hsing
          go_wp2_with fail
          refine bodyPost_ret (v := .tuple #[.agg #[.int .i64 (R.length : Int), .slice (some ⟨gx, 0, none⟩) R.length cx], .int .i64 0]) (by simp [results, Try.results28, go_sem, Z1.out.c0, Z1.out.c1]) rfl ⟨⟨_, by rw [E0.out], ?_⟩, Z2.out⟩
          rw [E1.out, E2.out]
          refine ⟨some ⟨gx, 0, none⟩, cx, by rw [tab_len], ?_, ?_⟩
          · exact HRT.out.rowAt.boxed HM1.out.pr
          · intro b' o' e
            cases e
            omega
    · have hne : ((R.length : Int) != (D : Int)) = true := by simp; omega
      have e0 : invE D R = 7 := by unfold invE; rw [hva, if_pos rfl, if_neg hDR]
      have e1 : invC D R = 0 := by unfold invC; rw [e0]; rfl
      have e2 : invR D R = [] := by unfold invR; rw [e0]; rfl
      rw [e0, e1, e2]
      clear hv1 hva e0 e1 e2 hDR
      go_enter Try.func28, Try.ntmps28
      go_wp2_with fail
      refine H1.out.mono ?_
      rintro e w4 ⟨rfl, hb4⟩
      have S4 := HS.out.keep hb4
      have b0 := S4.pa.c0
      have b1 := S4.pa.c1
      obtain ⟨z1, z2, r1'⟩ := S4.stored 0 none 0 0
      have r0 := S4.pr.c0
      have r1 := S4.pr.c1
      have f0 := S4.pr.f0
      have f1 := S4.pr.f1
      have Z1 := Lib.hid z1
      have Z2 := Lib.hid z2
      clear z1 z2 S4 hb4
      go_wp2_with fail
      exact bodyPost_ret (v := .tuple #[.agg #[.int .i64 0, .slice none 0 0], .int .i64 7]) (by simp [results, Try.results28, go_sem, Z1.out.c0, Z1.out.c1]) rfl ⟨⟨_, rfl, MatR.none _ _⟩, Z2.out⟩
end Go.Proofs.Ytodiokladojnjaa.B
