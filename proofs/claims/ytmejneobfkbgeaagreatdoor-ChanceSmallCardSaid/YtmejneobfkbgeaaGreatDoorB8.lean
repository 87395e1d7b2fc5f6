/- chance's refusal, Errors, Words, for valid codes. chance.Wrong. -/
import Derived.Test.YtmejneobfkbgeaaGreatDoorB7
namespace Go.Proofs.YtmejneobfkbgeaaGreatDoor
open Go Go.RowKit Go.Shelf

namespace C
/-- A valid code. -/
structure Ok (D C F : Nat) : Prop where
  d1 : 1 ≤ D
  d2 : D ≤ 32
  c1 : 1 ≤ C
  c2 : C ≤ 8
  f2 : F ≤ C / 2
theorem within_yes (n l h : Int) (h1 : l ≤ n) (h2 : n ≤ h) (w : World) : Calls Tryz.prog 68 #[.int .i64 n, .int .i64 l, .int .i64 h] w fun e w' => e = .returned (.bool true) ∧ w = w' := by
  go_enter Tryz.func68, Tryz.ntmps68
  go_wp2_with fail
  go_ret
  exact ⟨rfl, rfl⟩
theorem validCode_yes {D C F : Nat} (hc : Ok D C F) (w : World) : Calls Tryz.prog 85 #[codeV D C F] w fun e w' => e = .returned (.bool true) ∧ Below w.heap.size w w' := by
  unfold codeV
  obtain ⟨h1, h2, h3, h4, h5⟩ := hc
  obtain ⟨w1, hw1, hb, hB, _⟩ := CBox.new w D C F
  obtain ⟨c0, c1, c2, c3⟩ := hb.at
  have HB := Lib.hid hB
  have a1 : (1 : Int) ≤ (D : Int) := by omega
  have a2 : (D : Int) ≤ 32 := by omega
  have a3 : (1 : Int) ≤ (C : Int) := by omega
  have a4 : (C : Int) ≤ 8 := by omega
  have a5 : (0 : Int) ≤ (F : Int) := by omega
  have a6 : (F : Int) ≤ (C : Int) / 2 := by omega
  clear hB hb
  go_enter Tryz.func85, Tryz.ntmps85
  go_wp2_with (go_at_call 68; (with_reducible refine (within_yes _ _ _ (by assumption) (by assumption) _).mono ?_; rintro e w2 ⟨rfl, rfl⟩))
  go_ret
  exact ⟨rfl, HB.out⟩

set_option maxRecDepth 100000 in
theorem refusal_yes {D C F : Nat} (hc : Ok D C F) (w : Nat) (hw : w ≤ D + C) (u : World) : Calls Tryz.prog 37 #[codeV D C F, .int .i64 (w : Int)] u fun e W => e = .returned (.int .i64 0) ∧ Below u.heap.size u W := by
  have HV := Lib.hid (fun W => validCode_yes hc W)
  have h2 := hc.d2
  have h4 := hc.c2
  have HLE := Lib.hid (fun W => length_any (F := F) (show D ≤ 100 by omega) (show C ≤ 100 by omega) W)
  unfold codeV at *
  obtain ⟨w1, hw1, hb, hB, _⟩ := CBox.new u D C F
  obtain ⟨c0, c1, c2, c3⟩ := hb.at
  obtain ⟨n, hn⟩ : ∃ n, D + C = n := ⟨_, rfl⟩
  rw [hn] at HLE hw
  have hwn : (w : Int) ≤ (n : Int) := by omega
  have HB := Lib.hid hB
  have HCB := Lib.hid hb
  clear hB hb hn
  go_enter Tryz.func37, Tryz.ntmps37
  go_wp2_with fail
  (with_reducible refine (HV.out _).mono ?_)
  rintro e w2 ⟨rfl, hb2⟩
  obtain ⟨d0, d1, d2, d3⟩ := (HCB.out.below hb2).at
  have HB2 := Lib.hid (HB.out.trans (hb2.mono HB.out.size))
  clear hb2
  go_wp2_with fail
  (with_reducible refine (HLE.out _).mono ?_)
  rintro e w3 ⟨rfl, hb3⟩
  have HB3 := Lib.hid (HB2.out.trans (hb3.mono HB2.out.size))
  clear hb3
  go_wp2_with fail
  go_ret
  exact ⟨rfl, HB3.out⟩

/-- The number n is returned, and no error. -/
def NumE (n : Nat) (e : Ending) (W : World) : Prop := ∃ a c, e = .returned (.tuple #[.agg #[.slice a (M.dig n).length c], .int .i64 0]) ∧ Row W a (M.dig n) c
def errN (n w : Nat) : Nat := chI n w * 255 ^ w
theorem pow255 (w : Nat) : 255 ^ w ≤ 2 ^ (8 * w) := by rw [← pow256]; exact Nat.pow_le_pow_left (by omega) w
theorem errN_le (n w : Nat) : errN n w ≤ 2 ^ (n + 1 + 8 * w) := mul_bits (Nat.le_of_lt (chI_len n (w : Int))) (pow255 w)

set_option maxRecDepth 100000 in
set_option maxHeartbeats 1000000 in
/-- **chance.Errors** -/
theorem errors_any {D C F : Nat} (hc : Ok D C F) (w : Nat) (hw : w ≤ D + C) (u : World) :
    Calls Tryz.prog 22 #[codeV D C F, .int .i64 (w : Int)] u fun e W => NumE (errN (D + C) w) e W ∧ Below u.heap.size u W := by
  have h2 := hc.d2
  have h4 := hc.c2
  have HRF := Lib.hid (fun W => refusal_yes hc w hw W)
  have HLE := Lib.hid (fun W => length_any (F := F) (show D ≤ 100 by omega) (show C ≤ 100 by omega) W)
  unfold codeV at *
  obtain ⟨n, hn⟩ : ∃ n, D + C = n := ⟨_, rfl⟩
  have hn40 : n ≤ 40 := by omega
  rw [hn] at HLE hw ⊢
  clear hn
  obtain ⟨u1, hu1, hbx1, hB1, hs1⟩ := CBox.new u D C F
  have hr0 := Bx.zero u1
  obtain ⟨u3, hu3⟩ : ∃ u3, u1.alloc (.cells #[.slice none 0 0] 41) = u3 := ⟨_, rfl⟩
  have hB3 : Below u1.heap.size u1 u3 := by rw [← hu3]; exact (Below.refl _ u1).alloc (Nat.le_refl _) _
  rw [hu3] at hr0
  obtain ⟨pr, hpr⟩ : ∃ pr, u1.heap.size = pr := ⟨_, rfl⟩
  rw [hpr] at hr0
  have HCB := Lib.hid (hbx1.below hB3)
  have HR3 := Lib.hid hr0
  have hsz1 := hB1.size
  have hpr0 : u.heap.size ≤ pr := by omega
  have HB3 := Lib.hid (hB1.trans (hB3.mono (by omega)))
  obtain ⟨k0, k1, k2, k3⟩ := HCB.out.at
  have HCH := Lib.hid (fun W => (show Calls Tryz.prog 53 #[.int .i64 (n : Int), .int .i64 (w : Int)] W fun e W' => NumR (chI n w) e W' ∧ Below W.heap.size W W' from by
    have h := choose_any (n : Int) (w : Int) W (by omega)
    rwa [if_neg (by omega), Int.toNat_natCast] at h))
  have HPW := Lib.hid (fun W => (show Calls Tryz.prog 55 #[.int .i64 255, .int .i64 (w : Int)] W (fun e W' => NumR (255 ^ w) e W' ∧ Below W.heap.size W W') from power_any 255 w W (by omega) (by omega)))
  have hl1 := Nat.le_of_lt (chI_len n (w : Int))
  have HLN := Lib.hid (show (M.dig (chI n w)).length ≤ 200 ∧ (M.dig (255 ^ w)).length ≤ 200 ∧ (M.dig (chI n w * 255 ^ w)).length ≤ 200 from
    ⟨bits_len hl1 (by omega), bits_len (pow255 w) (by omega), bits_len (mul_bits hl1 (pow255 w)) (by omega)⟩)
  rw [show errN n w = chI n w * 255 ^ w from rfl]
  obtain ⟨E, hE⟩ : ∃ E, 255 ^ w = E := ⟨_, rfl⟩
  obtain ⟨H, hH⟩ : ∃ H, chI n w = H := ⟨_, rfl⟩
  simp only [hE, hH] at HLN HCH HPW ⊢
  clear hE hH hl1 hbx1 hB1 hB3 hr0 hs1
  go_enter Tryz.func22, Tryz.ntmps22
  go_wp2_with fail
  (with_reducible refine (HRF.out _).mono ?_)
  rintro e u4 ⟨rfl, hb4⟩
  obtain ⟨q0, q1, q2, q3⟩ := (HCB.out.below hb4).at
  have HB4 := Lib.hid hb4
  clear hb4 k0 k1 k2 k3 HRF
  go_wp2_with fail
  (with_reducible refine (HLE.out _).mono ?_)
  rintro e u5 ⟨rfl, hb5⟩
  have HB5 := Lib.hid (HB4.out.trans (hb5.mono HB4.out.size))
  clear hb5 q0 q1 q2 q3 HLE
  go_wp2_with fail
  (with_reducible refine (HCH.out _).mono ?_)
  rintro e u6 ⟨⟨a2, c2, rfl, hr2⟩, hb6⟩
  have HB6 := Lib.hid (HB5.out.trans (hb6.mono HB5.out.size))
  have HR2 := Lib.hid hr2
  clear hr2 hb6 HCH HB5
  go_wp2_with fail
  (with_reducible refine (HPW.out _).mono ?_)
  rintro e u7 ⟨⟨a3, c3, rfl, hr3⟩, hb7⟩
  have HPR := Lib.hid (product2 (HR2.out.below hb7) hr3 HLN.out.1 HLN.out.2.1 HLN.out.2.2)
  have HB7 := Lib.hid (HB6.out.trans (hb7.mono HB6.out.size))
  clear hr3 hb7 HPW HB6 HR2
  go_wp2_with fail
  (with_reducible refine HPR.out.mono ?_)
  rintro e uB ⟨⟨b6, c6, rfl, r6⟩, hbB⟩
  have HB8 := Lib.hid (HB7.out.trans (hbB.mono HB7.out.size))
  have hr4 := HR3.out.below HB8.out
  obtain ⟨_, _, d1, _⟩ := hr4.cell
  have d2 := hr4.free
  have hB9 := Lib.hid ((HB3.out.trans (HB8.out.mono HB3.out.size)).setCell (p := ⟨pr, 0, none⟩) hpr0 (.slice b6 (M.dig (H * E)).length c6))
  have d4 : (uB.setCell ⟨pr, 0, none⟩ (.slice b6 (M.dig (H * E)).length c6)).cell? ⟨pr, 0, none⟩ = some (.slice b6 (M.dig (H * E)).length c6) := World.cell?_setCell_same' _ _ _ (by rw [d1]; rfl)
  have HZ := Lib.hid (r6.store d1 (.slice b6 (M.dig (H * E)).length c6))
  clear hr4 hbB r6 HB7 HB8 HPR
  go_wp2_with fail
  exact bodyPost_ret (v := .tuple #[.agg #[.slice b6 (M.dig (H * E)).length c6], .int .i64 0]) (by simp [results, Tryz.results22, go_sem, d4]) rfl ⟨⟨b6, c6, rfl, HZ.out⟩, hB9.out⟩

set_option maxRecDepth 100000 in
set_option maxHeartbeats 1000000 in
/-- **chance.Words** -/
theorem Words_any {D C F : Nat} (hc : Ok D C F) (w : Nat) (hw : w ≤ D + C) (u : World) :
    Calls Tryz.prog 16 #[codeV D C F, .int .i64 (w : Int)] u fun e W => NumE (wordsN (D + C) C w) e W ∧ Below u.heap.size u W := by
  have h2 := hc.d2
  have h4 := hc.c2
  have HRF := Lib.hid (fun W => refusal_yes hc w hw W)
  have HWO := Lib.hid (fun W => words_any (F := F) h2 h4 w (by omega) W)
  unfold codeV at *
  obtain ⟨n, hn⟩ : ∃ n, D + C = n := ⟨_, rfl⟩
  obtain ⟨R, hR⟩ : ∃ R, wordsN (D + C) C w = R := ⟨_, rfl⟩
  rw [hR] at HWO ⊢
  clear hn hR
  obtain ⟨u1, hu1, hbx1, hB1, hs1⟩ := CBox.new u D C F
  have hr0 := Bx.zero u1
  obtain ⟨u3, hu3⟩ : ∃ u3, u1.alloc (.cells #[.slice none 0 0] 41) = u3 := ⟨_, rfl⟩
  have hB3 : Below u1.heap.size u1 u3 := by rw [← hu3]; exact (Below.refl _ u1).alloc (Nat.le_refl _) _
  rw [hu3] at hr0
  obtain ⟨pr, hpr⟩ : ∃ pr, u1.heap.size = pr := ⟨_, rfl⟩
  rw [hpr] at hr0
  have HCB := Lib.hid (hbx1.below hB3)
  have HR3 := Lib.hid hr0
  have hsz1 := hB1.size
  have hpr0 : u.heap.size ≤ pr := by omega
  have HB3 := Lib.hid (hB1.trans (hB3.mono (by omega)))
  obtain ⟨k0, k1, k2, k3⟩ := HCB.out.at
  clear hbx1 hB1 hB3 hr0 hs1
  go_enter Tryz.func16, Tryz.ntmps16
  go_wp2_with fail
  (with_reducible refine (HRF.out _).mono ?_)
  rintro e u4 ⟨rfl, hb4⟩
  obtain ⟨q0, q1, q2, q3⟩ := (HCB.out.below hb4).at
  have HB4 := Lib.hid hb4
  clear hb4 k0 k1 k2 k3 HRF
  go_wp2_with fail
  (with_reducible refine (HWO.out _).mono ?_)
  rintro e uB ⟨⟨b6, c6, rfl, r6⟩, hbB⟩
  have HB8 := Lib.hid (HB4.out.trans (hbB.mono HB4.out.size))
  have hr4 := HR3.out.below HB8.out
  obtain ⟨_, _, d1, _⟩ := hr4.cell
  have d2 := hr4.free
  have hB9 := Lib.hid ((HB3.out.trans (HB8.out.mono HB3.out.size)).setCell (p := ⟨pr, 0, none⟩) hpr0 (.slice b6 (M.dig R).length c6))
  have d4 : (uB.setCell ⟨pr, 0, none⟩ (.slice b6 (M.dig R).length c6)).cell? ⟨pr, 0, none⟩ = some (.slice b6 (M.dig R).length c6) := World.cell?_setCell_same' _ _ _ (by rw [d1]; rfl)
  have HZ := Lib.hid (r6.store d1 (.slice b6 (M.dig R).length c6))
  clear hr4 hbB r6 HB4 HB8
  go_wp2_with fail
  exact bodyPost_ret (v := .tuple #[.agg #[.slice b6 (M.dig R).length c6], .int .i64 0]) (by simp [results, Tryz.results16, go_sem, d4]) rfl ⟨⟨b6, c6, rfl, HZ.out⟩, hB9.out⟩
end C
end Go.Proofs.YtmejneobfkbgeaaGreatDoor

namespace Go.Proofs.YtmejneobfkbgeaaGreatDoor
open Go Go.RowKit Go.Shelf

namespace C
/-- The sum of the first k terms. -/
def sm (f : Nat → Nat) : Nat → Nat
  | 0 => 0
  | k + 1 => sm f k + f k
theorem sm_succ (f : Nat → Nat) (k : Nat) : sm f (k + 1) = sm f k + f k := rfl
def f3 (n C w g o m : Nat) : Nat := nearN n C w g o m
def f2 (n C w F g o : Nat) : Nat := sm (f3 n C w g o) (F - g - o + 1)
def f1 (n C w F g : Nat) : Nat := sm (f2 n C w F g) (F - g + 1)
/-- What Wrong returns. -/
def wrongN (n C w F : Nat) : Nat := sm (f1 n C w F) (F + 1)
theorem sm_le {f : Nat → Nat} {B K : Nat} : ∀ k, k ≤ K → (∀ z, z < k → f z ≤ B) → sm f k ≤ K * B := fun k hk h => by
  have : ∀ j, j ≤ k → sm f j ≤ j * B := fun j => by
    induction j with
    | zero => intro _; simp [sm]
    | succ j ih => intro hj; rw [sm_succ, Nat.succ_mul]; exact Nat.add_le_add (ih (by omega)) (h j (by omega))
  exact Nat.le_trans (this k (Nat.le_refl _)) (Nat.mul_le_mul_right B hk)
theorem sum3_bits {a b c d B : Nat} (h1 : a ≤ 16 * (16 * (16 * 2 ^ B))) (h2 : b ≤ 16 * (16 * 2 ^ B)) (h3 : c ≤ 16 * 2 ^ B) (h4 : d ≤ 2 ^ B) : a + b + c + d ≤ 2 ^ (B + 14) := by
  rw [Nat.pow_add, show (2 : Nat) ^ 14 = 16384 from rfl]
  generalize (2 : Nat) ^ B = X at *
  omega
section
variable {n C w F g o m : Nat}
theorem f3_le (hn : n ≤ 40) (hF : F ≤ 4) (hg : g ≤ F) (ho : o ≤ F - g) (hm : m ≤ F - g - o) : f3 n C w g o m ≤ 2 ^ (EB * 6) := nearN_le hn (by omega) (by omega)
theorem s3_le (hn : n ≤ 40) (hF : F ≤ 4) (hg : g ≤ F) (ho : o ≤ F - g) (hm : m ≤ F - g - o + 1) : sm (f3 n C w g o) m ≤ 16 * 2 ^ (EB * 6) := sm_le m (by omega) (fun z hz => f3_le hn hF hg ho (by omega))
theorem s2_le (hn : n ≤ 40) (hF : F ≤ 4) (hg : g ≤ F) (ho : o ≤ F - g + 1) : sm (f2 n C w F g) o ≤ 16 * (16 * 2 ^ (EB * 6)) := sm_le o (by omega) (fun z hz => s3_le hn hF hg (by omega) (Nat.le_refl _))
theorem s1_le (hn : n ≤ 40) (hF : F ≤ 4) (hg : g ≤ F + 1) : sm (f1 n C w F) g ≤ 16 * (16 * (16 * 2 ^ (EB * 6))) := sm_le g (by omega) (fun z hz => s2_le hn hF (by omega) (by omega))
/-- The partial sums fit. -/
theorem part_len (hn : n ≤ 40) (hF : F ≤ 4) (hg : g ≤ F) (ho : o ≤ F - g) (hm : m ≤ F - g - o) :
    (M.dig (sm (f1 n C w F) g + sm (f2 n C w F g) o + sm (f3 n C w g o) m)).length ≤ 200 ∧ (M.dig (f3 n C w g o m)).length ≤ 200 ∧ (M.dig (sm (f1 n C w F) g + sm (f2 n C w F g) o + sm (f3 n C w g o) m + f3 n C w g o m)).length ≤ 200 := by
  have h1 := s1_le (C := C) (w := w) hn hF (show g ≤ F + 1 by omega)
  have h2 := s2_le (C := C) (w := w) hn hF hg (show o ≤ F - g + 1 by omega)
  have h3 := s3_le (C := C) (w := w) hn hF hg ho (show m ≤ F - g - o + 1 by omega)
  have h4 := f3_le (C := C) (w := w) hn hF hg ho hm
  refine ⟨bits_len (a := EB * 6 + 14) (sum3_bits (d := 0) h1 h2 h3 (Nat.zero_le _)) (by have := EB_eq; omega), bits_len h4 (by have := EB_eq; omega), bits_len (a := EB * 6 + 14) (sum3_bits h1 h2 h3 h4) (by have := EB_eq; omega)⟩
end

set_option maxRecDepth 100000 in
set_option maxHeartbeats 2000000 in
/-- **chance.Wrong** -/
theorem wrong_any {D C F : Nat} (hc : Ok D C F) (w : Nat) (hw : w ≤ D + C) (u : World) :
    Calls Tryz.prog 13 #[codeV D C F, .int .i64 (w : Int)] u fun e W => NumE (wrongN (D + C) C w F) e W ∧ Below u.heap.size u W := by
  have h2 := hc.d2
  have h4 := hc.c2
  have h5 := hc.f2
  have HRF := Lib.hid (fun W => refusal_yes hc w hw W)
  have HNE := Lib.hid (fun (g o m : Nat) (hg : g ≤ 8) (ho : o ≤ 8) (hm : m ≤ 8) W => near_any (F := F) h2 h4 w g o m (by omega) hg ho hm W)
  unfold codeV at *
  obtain ⟨n, hn⟩ : ∃ n, D + C = n := ⟨_, rfl⟩
  have hn40 : n ≤ 40 := by omega
  have hF4 : F ≤ 4 := by omega
  rw [hn] at HNE ⊢
  obtain ⟨R, hR⟩ : ∃ R, wrongN n C w F = R := ⟨_, rfl⟩
  have HRR := Lib.hid (show sm (f1 n C w F) (F + 1) = R from hR)
  rw [hR]
  clear hn hR
  obtain ⟨u1, hu1, hbx1, hB1, hs1⟩ := CBox.new u D C F
  have hr0 := Bx.zero u1
  obtain ⟨u3, hu3⟩ : ∃ u3, u1.alloc (.cells #[.slice none 0 0] 41) = u3 := ⟨_, rfl⟩
  have hB3 : Below u1.heap.size u1 u3 := by rw [← hu3]; exact (Below.refl _ u1).alloc (Nat.le_refl _) _
  rw [hu3] at hr0
  obtain ⟨pr, hpr⟩ : ∃ pr, u1.heap.size = pr := ⟨_, rfl⟩
  rw [hpr] at hr0
  have HCB := Lib.hid (hbx1.below hB3)
  have HR3 := Lib.hid hr0
  have hsz1 := hB1.size
  have hpr0 : u.heap.size < pr := by omega
  have HB3 := Lib.hid (hB1.trans (hB3.mono (by omega)))
  obtain ⟨k0, k1, k2, k3⟩ := HCB.out.at
  clear hbx1 hB1 hB3 hr0 hs1
  go_enter Tryz.func13, Tryz.ntmps13
  go_wp2_with fail
  (with_reducible refine (HRF.out _).mono ?_)
  rintro e u4 ⟨rfl, hb4⟩
  have hz := Bx.zero u4
  obtain ⟨u5, hu5⟩ : ∃ u5, u4.alloc (.cells #[.slice none 0 0] 41) = u5 := ⟨_, rfl⟩
  have hb5 : Below u4.heap.size u4 u5 := by rw [← hu5]; exact (Below.refl _ u4).alloc (Nat.le_refl _) _
  obtain ⟨ps, hps⟩ : ∃ ps, u4.heap.size = ps := ⟨_, rfl⟩
  rw [hu5, hps] at hz
  have hb45 := hb4.trans (hb5.mono hb4.size)
  have hlr := HR3.out.lt
  have hs4 := hb4.size
  have hne : ps ≠ pr := by omega
  have hpsu : u.heap.size < ps := by omega
  have z1 : u5.cell? ⟨ps, 0, none⟩ = some (.slice none 0 0) := by rw [← hu5, ← hps]; exact cell_new _ _ _
  have z2 := hz.free
  obtain ⟨u6, hu6⟩ : ∃ u6, u5.setCell ⟨ps, 0, none⟩ (.slice none 0 0) = u6 := ⟨_, rfl⟩
  have hz6 := hz.store (row_nil u5)
  rw [show (M.dig 0).length = 0 by rw [M.dig_zero]; rfl, hu6] at hz6
  have HS5 := Lib.hid hz6
  have hr6 := (HR3.out.below hb45).other hz hne.symm (.slice none 0 0)
  have hc6 := G.Box.other (HCB.out.below hb45) (q := ⟨ps, 0, none⟩) (by show ps ≠ u.heap.size; omega) (.slice none 0 0)
  have hb6 := (HB3.out.trans (hb45.mono HB3.out.size)).setCell (p := ⟨ps, 0, none⟩) (by show u.heap.size ≤ ps; omega) (.slice none 0 0)
  rw [hu6] at hr6 hc6 hb6
  have HR5 := Lib.hid hr6
  have HC5 := Lib.hid (show CBox u6 u.heap.size D C F from hc6)
  have HB5 := Lib.hid hb6
  obtain ⟨q0, q1, q2, q3⟩ := HC5.out.at
  clear hb4 hb5 hb45 hz hz6 hr6 hc6 hb6 HR3 HCB HB3 k0 k1 k2 k3 HRF hlr hs4
  go_wp2_with fail
  go_loopw [22] (fun i wr => ∃ g : Nat, i = .int .i64 (g : Int) ∧ g ≤ F + 1 ∧ Hid (Bx wr ps (sm (f1 n C w F) g)) ∧ Hid (Bx wr pr 0) ∧ Hid (CBox wr u.heap.size D C F) ∧ Hid (Below u.heap.size u wr)) (fun i _ => F + 1 - (intOf i).toNat)
  case atStart => exact ⟨0, rfl, Nat.zero_le _, HS5, HR5, HC5, HB5⟩
  case round => as_aux_lemma =>
    clear HS5 HR5 HC5 HB5 q0 q1 q2 q3
    obtain ⟨g, rfl, hg, HS, HR, HCB, HB⟩ := hrel
    by_cases hgF : g < F + 1
    · have hgI : (g : Int) < (F : Int) + 1 := by omega
      obtain ⟨q0, q1, q2, q3⟩ := HCB.out.at
      have e1 : (F : Int) - (g : Int) = ((F - g : Nat) : Int) := by omega
      obtain ⟨A, hA⟩ : ∃ A, F - g = A := ⟨_, rfl⟩
      rw [hA] at e1
      have hwA : IntKind.i64.wrap (A : Int) = (A : Int) := by rw [IntKind.wrap_i64]; omega
      have HA := Lib.hid hA
      clear hA
      go_wp2_with fail
      go_loopw [30] (fun i wr => ∃ o : Nat, i = .int .i64 (o : Int) ∧ o ≤ A + 1 ∧ Hid (Bx wr ps (sm (f1 n C w F) g + sm (f2 n C w F g) o)) ∧ Hid (Bx wr pr 0) ∧ Hid (CBox wr u.heap.size D C F) ∧ Hid (Below u.heap.size u wr)) (fun i _ => A + 1 - (intOf i).toNat)
      case atStart => exact ⟨0, rfl, Nat.zero_le _, HS, HR, HCB, HB⟩
      case round => as_aux_lemma =>
        clear HS HR HCB HB q0 q1 q2 q3
        obtain ⟨o, rfl, ho, HS, HR, HCB, HB⟩ := hrel
        by_cases hoA : o < A + 1
        · have hoI : (o : Int) < (A : Int) + 1 := by omega
          obtain ⟨q0, q1, q2, q3⟩ := HCB.out.at
          have e2 : (A : Int) - (o : Int) = ((A - o : Nat) : Int) := by omega
          obtain ⟨B, hB'⟩ : ∃ B, A - o = B := ⟨_, rfl⟩
          rw [hB'] at e2
          have hwB : IntKind.i64.wrap (B : Int) = (B : Int) := by rw [IntKind.wrap_i64]; omega
          have HBB := Lib.hid hB'
          clear hB'
          go_wp2_with fail
          go_loopw [40] (fun i wr => ∃ m : Nat, i = .int .i64 (m : Int) ∧ m ≤ B + 1 ∧ Hid (Bx wr ps (sm (f1 n C w F) g + sm (f2 n C w F g) o + sm (f3 n C w g o) m)) ∧ Hid (Bx wr pr 0) ∧ Hid (CBox wr u.heap.size D C F) ∧ Hid (Below u.heap.size u wr)) (fun i _ => B + 1 - (intOf i).toNat)
          case atStart => exact ⟨0, rfl, Nat.zero_le _, HS, HR, HCB, HB⟩
          case round => as_aux_lemma =>
            clear HS HR HCB HB q0 q1 q2 q3
            obtain ⟨m, rfl, hm, HS, HR, HCB, HB⟩ := hrel
            by_cases hmB : m < B + 1
            · have hmI : (m : Int) < (B : Int) + 1 := by omega
              have HLN := Lib.hid (part_len (C := C) (w := w) (g := g) (o := o) (m := m) hn40 hF4 (by omega) (by have := HA.out; omega) (by have := HA.out; have := HBB.out; omega))
              have hstep : sm (f1 n C w F) g + sm (f2 n C w F g) o + sm (f3 n C w g o) (m + 1) = sm (f1 n C w F) g + sm (f2 n C w F g) o + sm (f3 n C w g o) m + f3 n C w g o m := by rw [sm_succ]; exact (Nat.add_assoc _ _ _).symm
              obtain ⟨S, hS⟩ : ∃ S, sm (f1 n C w F) g + sm (f2 n C w F g) o + sm (f3 n C w g o) m = S := ⟨_, rfl⟩
              obtain ⟨x, hx⟩ : ∃ x, f3 n C w g o m = x := ⟨_, rfl⟩
              rw [hS] at HS HLN hstep
              rw [hx] at HLN hstep
              have HST := Lib.hid hstep
              obtain ⟨a, c, c1, hr⟩ := HS.out.cell
              obtain ⟨k0, k1, k2, k3⟩ := HCB.out.at
              have q0 : wr.drew.cell? ⟨u.heap.size, 0, none⟩ = _ := k0
              have q1 : wr.drew.cell? ⟨u.heap.size, 1, none⟩ = _ := k1
              have q2 : wr.drew.cell? ⟨u.heap.size, 2, none⟩ = _ := k2
              have q3 : wr.drew.cell? ⟨u.heap.size, 3, none⟩ = _ := k3
              have q4 : wr.drew.cell? ⟨ps, 0, none⟩ = some (.slice a (M.dig S).length c) := c1
              have hnear := HNE.out g o m (by omega) (by have := HA.out; omega) (by have := HA.out; have := HBB.out; omega) wr.drew
              rw [show nearN n C w g o m = x from hx] at hnear
              have HN1 := Lib.hid hnear
              have HRY := Lib.hid (show Row wr.drew a (M.dig S) c from hr.drewN 1)
              have HV := Lib.hid (show Bx wr.drew ps S from HS.out.drewN 1)
              have HR1 := Lib.hid (show Bx wr.drew pr 0 from HR.out.drewN 1)
              have HC1 := Lib.hid (show CBox wr.drew u.heap.size D C F from HCB.out.drewN 1)
              have HB1 := Lib.hid (show Below u.heap.size u wr.drew from HB.out.drew)
              clear hx hS hstep hnear c1 hr k0 k1 k2 k3 HS HR HCB HB
              go_wp2_with fail
              go_region_law (first
                | (go_simp; go_at_call 39; (with_reducible refine HN1.out.mono ?_); go_must (rintro e w10 ⟨⟨a2, c2, rfl, hr2⟩, hb10⟩; have HV2 := Lib.hid (HV.out.below hb10); have q5 := (hb10.cell (p := ⟨ps, 0, none⟩) (lt_of_cell q4)).trans q4; have HP := Lib.hid (plus_any a a2 c c2 S x w10 HLN.out.1 HLN.out.2.1 HLN.out.2.2 (HRY.out.below hb10) hr2); have HR2 := Lib.hid (HR1.out.below hb10); have HC2 := Lib.hid (HC1.out.below hb10); have HB2 := Lib.hid (HB1.out.trans (hb10.mono HB1.out.size)); clear hr2 hb10; go_simp))
                | (go_simp; go_at_call 38; (with_reducible refine HP.out.mono ?_); go_must (rintro e w11 ⟨⟨a3, c3, rfl, hr3⟩, hb11⟩; have hv3 := HV2.out.below hb11; obtain ⟨_, _, d1, _⟩ := hv3.cell; have d2 := hv3.free; have HV3 := Lib.hid (hv3.store hr3); have HR4 := Lib.hid ((HR2.out.below hb11).other hv3 hne.symm (.slice a3 (M.dig (S + x)).length c3)); have HC3 := Lib.hid (G.Box.other (HC2.out.below hb11) (q := ⟨ps, 0, none⟩) (by show ps ≠ u.heap.size; omega) (.slice a3 (M.dig (S + x)).length c3)); have HB3 := Lib.hid ((HB2.out.trans (hb11.mono HB2.out.size)).setCell (p := ⟨ps, 0, none⟩) (by show u.heap.size ≤ ps; omega) (.slice a3 (M.dig (S + x)).length c3)); clear hv3 hr3 hb11; go_simp)))
              all_goals (
                go_wp2_with fail
                go_roundw
                case rel => exact ⟨m + 1, by go_num, by omega, Lib.hid (by rw [HST.out]; exact HV3.out), HR4, HC3, HB3⟩
                case measure => simp [intOf]; omega)
            · have e : m = F - g - o + 1 := by have := HA.out; have := HBB.out; omega
              have HS' := Lib.hid (show Bx wr ps (sm (f1 n C w F) g + sm (f2 n C w F g) (o + 1)) from by
                have := HS.out
                rw [e] at this
                rw [sm_succ, ← Nat.add_assoc]
                exact this)
              clear HS
              go_wp2_with fail
              go_roundw
              case rel => exact ⟨o + 1, by go_num, by omega, HS', HR, HCB, HB⟩
              case measure => simp [intOf]; omega
        · have e : o = F - g + 1 := by have := HA.out; omega
          have HS' := Lib.hid (show Bx wr ps (sm (f1 n C w F) (g + 1)) from by
            have := HS.out
            rw [e] at this
            rw [sm_succ]
            exact this)
          clear HS
          go_wp2_with fail
          go_roundw
          case rel => exact ⟨g + 1, by go_num, by omega, HS', HR, HCB, HB⟩
          case measure => simp [intOf]; omega
    · obtain rfl : g = F + 1 := by omega
      have hv := HS.out
      rw [HRR.out] at hv
      obtain ⟨a2, c2, d1, hr⟩ := hv.cell
      obtain ⟨_, _, d2, _⟩ := HR.out.cell
      have d3 := HR.out.free
      have HB5 := Lib.hid (HB.out.setCell (p := ⟨pr, 0, none⟩) (by show u.heap.size ≤ pr; omega) (.slice a2 (M.dig R).length c2))
      have d4 : (wr.setCell ⟨pr, 0, none⟩ (.slice a2 (M.dig R).length c2)).cell? ⟨pr, 0, none⟩ = some (.slice a2 (M.dig R).length c2) := World.cell?_setCell_same' _ _ _ (by rw [d2]; rfl)
      have HZ := Lib.hid (hr.store d2 (.slice a2 (M.dig R).length c2))
      clear hv HS HR HB hr
      go_wp2_with fail
      exact bodyPost_ret (v := .tuple #[.agg #[.slice a2 (M.dig R).length c2], .int .i64 0]) (by simp [results, Tryz.results13, go_sem, d4]) rfl ⟨⟨a2, c2, rfl, HZ.out⟩, HB5.out⟩
end C
end Go.Proofs.YtmejneobfkbgeaaGreatDoor
