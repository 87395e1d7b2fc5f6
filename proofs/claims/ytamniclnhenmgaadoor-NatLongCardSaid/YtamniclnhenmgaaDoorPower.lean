/- nat.Power. -/
import Derived.Test.YtamniclnhenmgaaDoorMul
import Derived.Test.YtamniclnhenmgaaDoorChoose
import Derived.Test.YtamniclnhenmgaaDoorShelf
namespace Go.Proofs.YtamniclnhenmgaaDoor
open Go Go.RowKit Go.Shelf

theorem lt_bitLen (n : Nat) (h : n < 2 ^ 64) : n < 2 ^ Lib.bitLen n := by
  induction n using Nat.strongRecOn with
  | ind n ih =>
    by_cases e : n = 0
    · subst e; decide
    · rw [Lib.bitLen_half n e h, Nat.add_comm, Nat.pow_succ]
      have := ih (n / 2) (by omega) (by omega)
      omega
theorem bitLen_le (k : Nat) : ∀ n : Nat, n < 2 ^ k → k ≤ 64 → Lib.bitLen n ≤ k := by
  induction k with
  | zero => intro n h _; rw [show n = 0 by omega]; decide
  | succ k ih =>
    intro n h hk
    by_cases e : n = 0
    · subst e; exact Nat.zero_le _
    · rw [Lib.bitLen_half n e (Nat.lt_of_lt_of_le h (Nat.pow_le_pow_right (by omega) hk))]
      have := ih (n / 2) (by rw [Nat.pow_succ] at h; omega) (by omega)
      omega

/-- The world behind a box and a result's cell. -/
def boxes1 (w : World) (u : Value) : World := (w.alloc (.cells #[u] 24)).alloc (.cells #[.slice none 0 0] 24)
theorem boxes1_size (w : World) (u : Value) : (boxes1 w u).heap.size = w.heap.size + 2 := by simp [boxes1]
theorem boxes1_below (w : World) (u : Value) : Below w.heap.size w (boxes1 w u) := ((Below.refl _ w).alloc (Nat.le_refl _) _).alloc (by simp) _
theorem boxes1_cells (w : World) (u : Value) : (boxes1 w u).cell? ⟨w.heap.size, 0, none⟩ = some u ∧ (boxes1 w u).cell? ⟨w.heap.size + 1, 0, none⟩ = some (.slice none 0 0) ∧ (boxes1 w u).frozen? ⟨w.heap.size + 1, 0, none⟩ = false := by
  have h0 := cell_new w u 24
  have h1 := cell_of_new (w.alloc (.cells #[u] 24)) (.slice none 0 0) 24
  simp only [World.size_alloc] at h1
  exact ⟨cell_later _ h0, h1.1, h1.2⟩

/-- A store into a cell that holds a slice leaves numbers as they are. -/
theorem Row.store {w : World} {a : Option Addr} {zs : List Int} {cap : Nat} (h : Row w a zs cap) {p : Addr} {s : Option Addr} {n c : Nat} (hp : w.cell? p = some (.slice s n c)) (u : Value) : Row (w.setCell p u) a zs cap :=
  ⟨h.room, h.most, fun j hj => by
    obtain ⟨b, off, e, hc⟩ := h.el j hj
    exact ⟨b, off, e, (World.cell?_setCell_other _ _ _ _ (by rintro rfl; rw [hp] at hc; cases hc)).trans hc⟩⟩

theorem pow_step {n L k : Nat} (h : k < L) : n / 2 ^ (L - (k + 1)) = 2 * (n / 2 ^ (L - k)) + n / 2 ^ (L - (k + 1)) % 2 := by
  have e : L - k = (L - (k + 1)) + 1 := by omega
  rw [e, Nat.pow_succ, ← Nat.div_div_eq_div_mul]; omega
theorem pow_sq (x m : Nat) : x ^ m * x ^ m = x ^ (2 * m) := by rw [← Nat.pow_add]; congr 1; omega
theorem pow_long {x m n : Nat} (h : m ≤ n) (hl : ¬ (M.dig (x ^ m)).length ≤ 200) : ¬ (M.dig (x ^ n)).length ≤ 200 := by
  rw [M.dig_len_le] at hl ⊢
  have : x ^ m ≤ x ^ n := by
    rcases Nat.eq_zero_or_pos x with h0 | h0
    · subst h0
      exfalso
      apply hl
      rcases Nat.eq_zero_or_pos m with h1 | h1
      · subst h1; exact Nat.one_lt_pow (by omega) (by omega)
      · rw [Nat.zero_pow h1]; exact Nat.pow_pos (by omega)
    · exact Nat.pow_le_pow_right h0 h
  omega

theorem mask1 (x : Int) : bits BinOp.and IntKind.i64 x 1 = x % 2 := by
  show IntKind.i64.wrap ((BitVec.ofInt 64 x &&& BitVec.ofInt 64 1).toNat : Int) = _
  have h1 := toNat_ofInt64 x
  have h2 : (BitVec.ofInt 64 1).toNat = 2 ^ 1 - 1 := by decide
  rw [BitVec.toNat_and, h2, Nat.and_two_pow_sub_one_eq_mod, IntKind.wrap_i64]
  omega
theorem shr_n {n L k m2 : Nat} (h : m2 = n / 2 ^ (L - (k + 1))) : (n : Int) / 2 ^ (L - 1 - k) = (m2 : Int) := by
  rw [h, show L - (k + 1) = L - 1 - k by omega, Int.natCast_ediv, Int.natCast_pow]; rfl

/-- What holds in Power's loop. -/
def PwRel (_w wA : World) (x n L P : Nat) (i : Value) (W : World) : Prop :=
  ∃ (k : Nat) (a : Option Addr) (cap : Nat), i = .int .i64 (k : Int) ∧ k ≤ L ∧ W.cell? ⟨P, 0, none⟩ = some (.slice a (M.dig (x ^ (n / 2 ^ (L - k)))).length cap) ∧ W.frozen? ⟨P, 0, none⟩ = false ∧ Row W a (M.dig (x ^ (n / 2 ^ (L - k)))) cap ∧ (M.dig (x ^ (n / 2 ^ (L - k)))).length ≤ 200 ∧ P < W.heap.size ∧ Below P wA W

attribute [local go_sem] mask1
set_option maxRecDepth 100000 in
set_option maxHeartbeats 2000000 in
theorem power_any (a : Option Addr) (cap x n : Nat) (w : World) (hx : (M.dig x).length ≤ 200) (hn : n ≤ 4800) (hR : Row w a (M.dig x) cap) :
    Calls Tryd.prog 33 #[.agg #[.slice a (M.dig x).length cap], .int .i64 (n : Int)] w fun e W' => NatRes (x ^ n) e W' ∧ Below w.heap.size w W' := by
  have Hv := Lib.hid (vld_dig hx)
  have hB2 := boxes1_below w (.slice a (M.dig x).length cap)
  have hs2 := boxes1_size w (.slice a (M.dig x).length cap)
  have HC := Lib.hid (boxes1_cells w (.slice a (M.dig x).length cap))
  have HR := Lib.hid (hR.below hB2)
  have HB2 := Lib.hid hB2
  have HS2 := Lib.hid hs2
  have hra := hR.room
  have hma := hR.most
  have HL := Lib.hid (lt_bitLen n (by omega))
  have HLL := Lib.hid (bitLen_le 13 n (by omega) (by omega))
  have hlen := bitsLen_any (n : Int)
  clear hR hB2 hs2
  rw [Int.toNat_natCast] at hlen
  generalize Lib.bitLen n = L at *
  have HLEN := Lib.hid hlen
  clear hlen
  have d1 : decide ((n : Int) < 0) = false := by simp
  have d2 : decide ((4800 : Int) < (n : Int)) = false := by simp; omega
  go_enter Tryd.func33, Tryd.ntmps33
  go_wp2_with fail
  generalize hw2 : ((w.alloc (.cells #[.slice a (M.dig x).length cap] 24)).alloc (.cells #[.slice none 0 0] 24)) = w2
  obtain rfl : boxes1 w (.slice a (M.dig x).length cap) = w2 := hw2
  generalize boxes1 w (.slice a (M.dig x).length cap) = w2 at *
  refine (valid_yes a _ cap _ HR.out Hv.out).mono ?_
  rintro e w3 ⟨rfl, hb3⟩
  have hs3 := hb3.size
  have HB3 := Lib.hid hb3
  clear hb3
  go_wp2_with (go_at_call 75; refine (HLEN.out _ (by omega) (by omega)).mono ?_; rintro e w' ⟨rfl, rfl⟩)
  have hown1 := own_one w3 w3.heap.size (Nat.le_refl _)
  have hcP := cell_of_new (w3.alloc (.cells #[.int .i64 1] 3)) (.slice (some ⟨w3.heap.size, 0, none⟩) 1 1) 24
  simp only [World.size_alloc] at hcP
  have hrow1 := (hown1.alloc (.cells #[.slice (some ⟨w3.heap.size, 0, none⟩) 1 1] 24))
  have hwA : ((w3.alloc (.cells #[.int .i64 1] 3)).alloc (.cells #[.slice (some ⟨w3.heap.size, 0, none⟩) 1 1] 24)).heap.size = w3.heap.size + 2 := by simp
  have hBA : Below w3.heap.size w3 ((w3.alloc (.cells #[.int .i64 1] 3)).alloc (.cells #[.slice (some ⟨w3.heap.size, 0, none⟩) 1 1] 24)) := ((Below.refl _ w3).alloc (Nat.le_refl _) _).alloc (by simp) _
  generalize ((w3.alloc (.cells #[.int .i64 1] 3)).alloc (.cells #[.slice (some ⟨w3.heap.size, 0, none⟩) 1 1] 24)) = wA at *
  have h0L : n / 2 ^ (L - 0) = 0 := Nat.div_eq_of_lt HL.out
  go_loopw [27] (fun i wr => PwRel w wA x n L (w3.heap.size + 1) i wr) (fun i _ => L - (intOf i).toNat)
  case atStart =>
    refine ⟨0, some ⟨w3.heap.size, 0, none⟩, 1, rfl, Nat.zero_le _, ?_, hcP.2, ?_, ?_, by omega, Below.refl _ _⟩
    · rw [h0L, Nat.pow_zero, dig_one]; exact hcP.1
    · rw [h0L, Nat.pow_zero, dig_one]; exact Own.rowAt (B := w3.heap.size) hrow1
    · rw [h0L, Nat.pow_zero, dig_one]; simp
  case round =>
    obtain ⟨k, a1, cap1, rfl, hk, hcp, hfp, hr1, hl1, hP, hbW⟩ := hrel
    have hN3 : w.heap.size + 1 < w3.heap.size := by have := HS2.out; omega
    have c2 := (hbW.cell (p := ⟨w.heap.size, 0, none⟩) (by simp; omega)).trans ((hBA.cell (p := ⟨w.heap.size, 0, none⟩) (by simp; omega)).trans ((HB3.out.cell (p := ⟨w.heap.size, 0, none⟩) (lt_of_cell HC.out.1)).trans HC.out.1))
    have c4 := (hbW.cell (p := ⟨w.heap.size + 1, 0, none⟩) (by simp; omega)).trans ((hBA.cell (p := ⟨w.heap.size + 1, 0, none⟩) (by simp; omega)).trans ((HB3.out.cell (p := ⟨w.heap.size + 1, 0, none⟩) (lt_of_cell HC.out.2.1)).trans HC.out.2.1))
    have f4 := (hbW.frozen (p := ⟨w.heap.size + 1, 0, none⟩) (by simp; omega)).trans ((hBA.frozen (p := ⟨w.heap.size + 1, 0, none⟩) (by simp; omega)).trans ((HB3.out.frozen (p := ⟨w.heap.size + 1, 0, none⟩) (lt_of_cell HC.out.2.1)).trans HC.out.2.2))
    have HBW := Lib.hid hbW
    have HR1 := Lib.hid hr1
    clear hbW hr1
    by_cases hlt : k < L
    · have hst := pow_step (n := n) hlt
      have hle := Nat.div_le_self n (2 ^ (L - (k + 1)))
      obtain ⟨m, hm⟩ : ∃ m, m = n / 2 ^ (L - k) := ⟨_, rfl⟩
      rw [← hm] at hst hcp hl1
      have HR1' := Lib.hid (show Row wr a1 (M.dig (x ^ m)) cap1 from by rw [hm]; exact HR1.out)
      have hmul := mul_any a1 a1 cap1 cap1 (x ^ m) (x ^ m) wr hl1 hl1 HR1'.out HR1'.out
      rw [pow_sq] at hmul
      have HM := Lib.hid hmul
      have HST := Lib.hid hst
      have hmn : 2 * m ≤ n := by omega
      obtain ⟨m2, hm2⟩ : ∃ m2, m2 = n / 2 ^ (L - (k + 1)) := ⟨_, rfl⟩
      have HM2 := Lib.hid hm2
      have HSH := Lib.hid (shr_n hm2)
      clear hmul hst hm HR1 hm2 hle
      go_wp2_with fail
      refine HM.out.mono ?_
      rintro e w5 ⟨hres, hb5⟩
      have c2' := (hb5.cell (p := ⟨w.heap.size, 0, none⟩) (lt_of_cell c2)).trans c2
      have c4' := (hb5.cell (p := ⟨w.heap.size + 1, 0, none⟩) (lt_of_cell c4)).trans c4
      have f4' := (hb5.frozen (p := ⟨w.heap.size + 1, 0, none⟩) (lt_of_cell c4)).trans f4
      have cp' := (hb5.cell (p := ⟨w3.heap.size + 1, 0, none⟩) (lt_of_cell hcp)).trans hcp
      have fp' := (hb5.frozen (p := ⟨w3.heap.size + 1, 0, none⟩) (lt_of_cell hcp)).trans hfp
      have HB5 := Lib.hid hb5
      clear hb5 c2 c4 f4 hcp hfp HM
      by_cases hlong : (M.dig (x ^ (2 * m))).length ≤ 200
      · obtain ⟨v, rfl, a5, cap5, rfl, hr5⟩ := hres.ok hlong
        have HR5 := Lib.hid hr5
        clear hr5 hres
        have hL13 := HLL.out
        have hb2 : m2 = 2 * m + m2 % 2 := by have := HST.out; rw [← HM2.out] at this; exact this
        by_cases hbit : m2 % 2 = 0
        · have hbt : ((n : Int) / 2 ^ (L - 1 - k) % 2 == 0) = true := by rw [HSH.out, beq_iff_eq]; omega
          have HE := Lib.hid (show m2 = 2 * m by omega)
          clear hb2 hbit
          go_wp2_with fail
          go_roundw
          case rel =>
            refine ⟨k + 1, a5, cap5, by go_num, by omega, ?_, ?_, ?_, ?_, ?_, ?_⟩
            · rw [← HM2.out, HE.out]; exact World.cell?_setCell_same' _ _ _ (by rw [cp']; rfl)
            · rw [World.frozen?_setCell]; exact fp'
            · rw [← HM2.out, HE.out]; exact HR5.out.store cp' _
            · rw [← HM2.out, HE.out]; exact hlong
            · simp [World.setCell]; have := lt_of_cell cp'; simpa using this
            · exact (HBW.out.trans (HB5.out.mono (by omega))).setCell (p := ⟨w3.heap.size + 1, 0, none⟩) (Nat.le_refl _) _
          case measure => simp [intOf]; omega
        · have hbt : ((n : Int) / 2 ^ (L - 1 - k) % 2 == 0) = false := by rw [HSH.out, beq_eq_false_iff_ne]; omega
          have HE := Lib.hid (show m2 = 2 * m + 1 by omega)
          have hm2n : m2 ≤ n := by rw [HM2.out]; exact Nat.div_le_self _ _
          clear hb2 hbit
          have HRX := Lib.hid ((HR.out.below HB3.out).below (hBA.trans ((HBW.out.trans (HB5.out.mono (by omega))).mono (by omega))))
          have hmul2 := mul_any a5 a cap5 cap (x ^ (2 * m)) x (w5.setCell ⟨w3.heap.size + 1, 0, none⟩ (.slice a5 (M.dig (x ^ (2 * m))).length cap5)) hlong hx (HR5.out.store cp' _) (HRX.out.store cp' _)
          rw [show x ^ (2 * m) * x = x ^ m2 from by rw [HE.out, Nat.pow_succ]] at hmul2
          have HM2' := Lib.hid hmul2
          clear hmul2
          have hs6 : (w5.setCell ⟨w3.heap.size + 1, 0, none⟩ (.slice a5 (M.dig (x ^ (2 * m))).length cap5)).heap.size = w5.heap.size := by simp [World.setCell]
          have b2 := (cell_other (W := w5) (p := ⟨w3.heap.size + 1, 0, none⟩) (a := ⟨w.heap.size, 0, none⟩) (.slice a5 (M.dig (x ^ (2 * m))).length cap5) (by simp; omega)).trans c2'
          have b4 := (cell_other (W := w5) (p := ⟨w3.heap.size + 1, 0, none⟩) (a := ⟨w.heap.size + 1, 0, none⟩) (.slice a5 (M.dig (x ^ (2 * m))).length cap5) (by simp; omega)).trans c4'
          have g4 := (World.frozen?_setCell w5 ⟨w3.heap.size + 1, 0, none⟩ ⟨w.heap.size + 1, 0, none⟩ (.slice a5 (M.dig (x ^ (2 * m))).length cap5)).trans f4'
          have bP := World.cell?_setCell_same' w5 ⟨w3.heap.size + 1, 0, none⟩ (.slice a5 (M.dig (x ^ (2 * m))).length cap5) (by rw [cp']; rfl)
          have gP := (World.frozen?_setCell w5 ⟨w3.heap.size + 1, 0, none⟩ ⟨w3.heap.size + 1, 0, none⟩ (.slice a5 (M.dig (x ^ (2 * m))).length cap5)).trans fp'
          have HB6 := Lib.hid ((HBW.out.trans (HB5.out.mono (by omega))).setCell (p := ⟨w3.heap.size + 1, 0, none⟩) (Nat.le_refl _) (.slice a5 (M.dig (x ^ (2 * m))).length cap5))
          go_wp2_with fail
          clear c2' c4' f4' cp' fp'
          generalize (w5.setCell ⟨w3.heap.size + 1, 0, none⟩ (.slice a5 (M.dig (x ^ (2 * m))).length cap5)) = w6 at *
          refine HM2'.out.mono ?_
          rintro e w7 ⟨hres, hb7⟩
          have e2 := (hb7.cell (p := ⟨w.heap.size, 0, none⟩) (lt_of_cell b2)).trans b2
          have e4 := (hb7.cell (p := ⟨w.heap.size + 1, 0, none⟩) (lt_of_cell b4)).trans b4
          have k4 := (hb7.frozen (p := ⟨w.heap.size + 1, 0, none⟩) (lt_of_cell b4)).trans g4
          have eP := (hb7.cell (p := ⟨w3.heap.size + 1, 0, none⟩) (lt_of_cell bP)).trans bP
          have kP := (hb7.frozen (p := ⟨w3.heap.size + 1, 0, none⟩) (lt_of_cell bP)).trans gP
          have HB7 := Lib.hid (HB6.out.trans (hb7.mono (Nat.le_of_lt (lt_of_cell bP))))
          clear hb7 b2 b4 g4 bP gP HM2'
          by_cases hl7 : (M.dig (x ^ m2)).length ≤ 200
          · obtain ⟨v, rfl, a7, cap7, rfl, hr7⟩ := hres.ok hl7
            have HR7 := Lib.hid hr7
            clear hr7 hres
            go_wp2_with fail
            go_roundw
            case rel =>
              refine ⟨k + 1, a7, cap7, by go_num, by omega, ?_, ?_, ?_, ?_, ?_, ?_⟩
              · rw [← HM2.out]; exact World.cell?_setCell_same' _ _ _ (by rw [eP]; rfl)
              · rw [World.frozen?_setCell]; exact kP
              · rw [← HM2.out]; exact HR7.out.store eP _
              · rw [← HM2.out]; exact hl7
              · simp [World.setCell]; have := lt_of_cell eP; simpa using this
              · exact HB7.out.setCell (p := ⟨w3.heap.size + 1, 0, none⟩) (Nat.le_refl _) _
            case measure => simp [intOf]; omega
          · obtain rfl := hres.limit hl7
            have HLO := Lib.hid (pow_long hm2n hl7)
            clear hres
            go_wp2_with fail
            have m4 := (cell_other (W := w7) (p := ⟨w3.heap.size + 1, 0, none⟩) (a := ⟨w.heap.size + 1, 0, none⟩) (.slice none 0 0) (by simp; omega)).trans e4
            refine bodyPost_ret (v := .tuple #[.agg #[.slice none 0 0], .int .i64 3]) (by simp [results, Tryd.results33, go_sem, m4]) rfl ⟨natRes_limit HLO.out, ?_⟩
            exact ((((HB2.out.trans (HB3.out.mono HB2.out.size)).trans (hBA.mono (by omega))).trans (HB7.out.mono (by omega))).setCell (p := ⟨w3.heap.size + 1, 0, none⟩) (by simp; omega) _).setCell (p := ⟨w.heap.size + 1, 0, none⟩) (by simp) _
      · obtain rfl := hres.limit hlong
        have HLO := Lib.hid (pow_long hmn hlong)
        clear hres
        go_wp2_with fail
        have m4 := (cell_other (W := w5) (p := ⟨w3.heap.size + 1, 0, none⟩) (a := ⟨w.heap.size + 1, 0, none⟩) (.slice none 0 0) (by simp; omega)).trans c4'
        refine bodyPost_ret (v := .tuple #[.agg #[.slice none 0 0], .int .i64 3]) (by simp [results, Tryd.results33, go_sem, m4]) rfl ⟨natRes_limit HLO.out, ?_⟩
        exact ((((HB2.out.trans (HB3.out.mono HB2.out.size)).trans (hBA.mono (by omega))).trans ((HBW.out.trans (HB5.out.mono (by omega))).mono (by omega))).setCell (p := ⟨w3.heap.size + 1, 0, none⟩) (by simp; omega) _).setCell (p := ⟨w.heap.size + 1, 0, none⟩) (by simp) _
    · have hkL : k = L := by omega
      have e0 : n / 2 ^ (L - k) = n := by rw [hkL, Nat.sub_self, Nat.pow_zero, Nat.div_one]
      rw [e0] at hcp hl1
      have hr1 := HR1.out
      rw [e0] at hr1
      have HRE := Lib.hid hr1
      clear HR1 hr1 e0 hkL
      go_wp2_with fail
      refine bodyPost_ret (v := .tuple #[.agg #[.slice a1 (M.dig (x ^ n)).length cap1], .int .i64 0]) (by simp [results, Tryd.results33, go_sem, c4]) rfl ⟨natRes_ok hl1 ⟨a1, cap1, rfl, HRE.out.store c4 _⟩, ?_⟩
      exact (((HB2.out.trans (HB3.out.mono HB2.out.size)).trans (hBA.mono (by omega))).trans (HBW.out.mono (by omega))).setCell (p := ⟨w.heap.size + 1, 0, none⟩) (by simp) _

/-- **nat.Power** of a number. -/
theorem power_num {u : Value} {x n : Nat} {w : World} (hx : (M.dig x).length ≤ 200) (hn : n ≤ 4800) (hu : Num w u x) :
    Calls Tryd.prog 33 #[u, .int .i64 (n : Int)] w fun e W' => NatRes (x ^ n) e W' ∧ Below w.heap.size w W' := by
  obtain ⟨a, cap, rfl, hr⟩ := hu
  exact power_any a cap x n w hx hn hr
end Go.Proofs.YtamniclnhenmgaaDoor
