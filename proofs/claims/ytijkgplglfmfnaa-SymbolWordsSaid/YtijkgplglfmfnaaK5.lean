/- ref04.Mul. ref04.Divide. ref04.Divide of any two (of XPRefGcd). ref07's codes, Encode, Syndromes. ref07.Encode. -/
import Derived.Test.YtijkgplglfmfnaaK4
namespace Go.Proofs.Ytijkgplglfmfnaa.P
open Go Go.RowKit Go.Shelf
open RF (rmul_any rinverse_any)

theorem rfmul_any (a b : PM.G) (w : World) :
    Calls Try.prog 22 #[.int .u8 (a.v : Int), .int .u8 (b.v : Int)] w fun e w' => e = .returned (.int .u8 ((a * b).v : Int)) ∧ w = w' := rmul_any a.v b.v a.lt b.lt w
/-- The coefficients below k. -/
def low (p : List PM.G) (k : Nat) : PM.Co := fun i => if i < k then PM.el p i else 0
theorem low_zero (p : List PM.G) : low p 0 = PM.zeroC := by funext i; unfold low; rw [if_neg (Nat.not_lt_zero _)]; rfl
theorem low_all (p : List PM.G) : low p p.length = PM.el p := by
  funext i; unfold low
  by_cases h : i < p.length
  · rw [if_pos h]
  · rw [if_neg h, PM.el_ge (by omega)]
theorem low_step (p : List PM.G) (k i : Nat) : low p (k + 1) i = if i = k then PM.el p k else low p k i := by
  unfold low
  by_cases e : i = k
  · subst e; rw [if_pos (Nat.lt_succ_self i), if_pos rfl]
  · rw [if_neg e]
    by_cases h : i < k
    · rw [if_pos h, if_pos (by omega)]
    · rw [if_neg h, if_neg (by omega)]
theorem low_at (p : List PM.G) (k : Nat) : low p k k = 0 := by unfold low; rw [if_neg (Nat.lt_irrefl k)]
/-- What a round has added up to place k of the second factor. -/
def part (c : PM.G) (q : List PM.G) (i k j : Nat) : PM.G := if i ≤ j ∧ j < i + k then c * PM.el q (j - i) else 0
theorem part_zero (c : PM.G) (q : List PM.G) (i j : Nat) : part c q i 0 j = 0 := by unfold part; rw [if_neg (by omega)]
theorem part_all (c : PM.G) (q : List PM.G) (i j : Nat) : part c q i q.length j = if j < i then 0 else c * PM.el q (j - i) := by
  unfold part
  by_cases h : j < i
  · rw [if_neg (by omega), if_pos h]
  · rw [if_neg h]
    by_cases h2 : j < i + q.length
    · rw [if_pos ⟨by omega, h2⟩]
    · rw [if_neg (by omega), PM.el_ge (by omega), PM.G.mul_zero]
theorem part_step (c : PM.G) (q : List PM.G) (i k j : Nat) : part c q i (k + 1) j = if j = i + k then c * PM.el q k else part c q i k j := by
  unfold part
  by_cases e : j = i + k
  · subst e; rw [if_pos (by omega), if_pos rfl, Nat.add_sub_cancel_left]
  · rw [if_neg e]
    by_cases h : i ≤ j ∧ j < i + k
    · rw [if_pos h, if_pos (by omega)]
    · rw [if_neg h, if_neg (by omega)]
theorem part_at (c : PM.G) (q : List PM.G) (i k : Nat) : part c q i k (i + k) = 0 := by unfold part; rw [if_neg (by omega)]

def RMulOut (w : World) (g n : Nat) (p q : List PM.G) (i : Value) (W : World) : Prop :=
  ∃ (k : Nat) (ys : List PM.G), i = .int .i64 (k : Int) ∧ k ≤ p.length ∧ ys.length = n ∧ (∀ j, PM.el ys j = PM.conv (low p k) (PM.el q) j) ∧ Own W g (.slice (some ⟨g, 0, none⟩) n n) ys ∧ Below g w W
def RMulIn (w : World) (g n : Nat) (p q : List PM.G) (k : Nat) (i : Value) (W : World) : Prop :=
  ∃ (m : Nat) (ys : List PM.G), i = .int .i64 (m : Int) ∧ m ≤ q.length ∧ ys.length = n ∧ (∀ j, PM.el ys j = PM.conv (low p k) (PM.el q) j + part (PM.el p k) q k m j) ∧ Own W g (.slice (some ⟨g, 0, none⟩) n n) ys ∧ Below g w W
theorem rmul_step {w wr W' : World} {g n k m d : Nat} {p q ys : List PM.G} (hd : k + m = d) (hm : m < q.length) (hfit : k + q.length ≤ n) (hl : ys.length = n) (he : ∀ j, PM.el ys j = PM.conv (low p k) (PM.el q) j + part (PM.el p k) q k m j)
    (ho : Own wr g (.slice (some ⟨g, 0, none⟩) n n) ys) (hB : Below g w wr) (hW : W' = (wr.drewN 1).setCell ⟨g, d, none⟩ (.int .u8 (bits BinOp.xor IntKind.u8 ((PM.el ys d).v : Int) ((PM.el p k * PM.el q m).v : Int)))) :
    RMulIn w g n p q k (.int .i64 ((m : Int) + 1)) W' := by
  subst hW hd
  rw [xor_G]
  refine ⟨m + 1, ys.set (k + m) (PM.el ys (k + m) + PM.el p k * PM.el q m), by go_num, hm, by rw [List.length_set]; exact hl, fun j => ?_, ?_, (belowN hB 1).setCell (p := ⟨g, k + m, none⟩) (Nat.le_refl _) _⟩
  · rw [PM.el_set (by omega), part_step]
    by_cases e : j = k + m
    · subst e; rw [if_pos rfl, if_pos rfl, he, part_at, PM.G.add_zero]
    · rw [if_neg e, if_neg e, he]
  · subst hl
    exact (ho.drewN 1).set (k + m) (PM.el ys (k + m) + PM.el p k * PM.el q m)
theorem rmul_next {w wr : World} {g n k : Nat} {p q ys : List PM.G} (hk : k < p.length) (hl : ys.length = n) (he : ∀ j, PM.el ys j = PM.conv (low p k) (PM.el q) j + part (PM.el p k) q k q.length j)
    (ho : Own wr g (.slice (some ⟨g, 0, none⟩) n n) ys) (hB : Below g w wr) : RMulOut w g n p q (.int .i64 ((k : Int) + 1)) wr :=
  ⟨k + 1, ys, by go_num, hk, hl, fun j => by rw [he, part_all, PM.conv_put (low p k) (low p (k + 1)) (PM.el q) (PM.el p k) k (low_at p k) (fun i => low_step p k i)], ho, hB⟩

set_option maxRecDepth 100000 in
set_option maxHeartbeats 1000000 in
theorem rmul_fit (a b : Option Addr) (ca cb : Nat) (p q : List PM.G) (w : World) (ha : Row w a p ca) (hb : Row w b q cb) (hp : Pol p) (hq : Pol q) (hp0 : 0 < p.length) (hq0 : 0 < q.length) (hl : p.length + q.length ≤ 256) :
    Calls Try.prog 26 #[.slice a p.length ca, .slice b q.length cb] w fun e W => (∃ r a' cap, e = .returned (.tuple #[.slice a' (List.length r) cap, .int .i64 0]) ∧ Row W a' r cap ∧ Pol r ∧ (∀ k, PM.el r k = PM.conv (PM.el p) (PM.el q) k) ∧ ∀ b o, a' = some ⟨b, o, none⟩ → w.heap.size ≤ b) ∧ Below w.heap.size w W := by
  have hra := ha.room
  have hma := ha.most
  have hrb := hb.room
  have hmb := hb.most
  have HA := Lib.hid ha
  have HB := Lib.hid hb
  have HP := Lib.hid hp
  have HQ := Lib.hid hq
  clear ha hb hp hq
  have hz1 : ((p.length : Int) == 0) = false := beq_false_of_ne (by omega)
  have hz2 : ((q.length : Int) == 0) = false := beq_false_of_ne (by omega)
  obtain ⟨n, hn⟩ : ∃ n, p.length + q.length - 1 = n := ⟨_, rfl⟩
  go_enter Try.func26, Try.ntmps26
  go_wp2_with fail
  (with_reducible refine (rvalid_yes a p ca w HA.out HP.out).mono ?_)
  rintro e w1 ⟨rfl, rfl⟩
  go_wp2_with fail
  (with_reducible refine (rvalid_yes b q cb w HB.out HQ.out).mono ?_)
  rintro e w1 ⟨rfl, rfl⟩
  go_wp2_with (at_make; refine wpList_make1 rfl _ _ rfl n rfl rfl (by omega) (by omega) (B := w.heap.size) (Nat.le_refl _) ?_; intro w2 hown2 hb2; rw [List.length_replicate] at hown2; have HO2 := Lib.hid hown2; have HB2 := Lib.hid hb2; clear hown2 hb2)
  obtain ⟨g, hg⟩ : ∃ g, w.heap.size = g := ⟨_, rfl⟩
  rw [hg] at HO2 HB2 ⊢
  go_loopw [7] (fun i wr => RMulOut w g n p q i wr) (fun i _ => p.length - (intOf i).toNat)
  case atStart => exact ⟨0, _, rfl, Nat.zero_le _, List.length_replicate, fun j => by rw [PM.el_replicate, low_zero, PM.conv_zeroC_l], HO2.out, HB2.out⟩
  case round =>
    clear HO2 HB2
    obtain ⟨k, ys, rfl, hk, hlen, hel, hown, hB⟩ := hrel
    by_cases hlt : k < p.length
    · have hi0 : RMulIn w g n p q k (.int .i64 0) wr := ⟨0, ys, rfl, Nat.zero_le _, hlen, fun j => by rw [part_zero, PM.G.add_zero]; exact hel j, hown, hB⟩
      have HI0 := Lib.hid hi0
      clear hi0 hlen hel hown hB
      go_wp2_with fail
      go_loopw [8] (fun i wr => RMulIn w g n p q k i wr) (fun i _ => q.length - (intOf i).toNat)
      case atStart => exact HI0.out
      case round =>
        clear HI0
        obtain ⟨m, ys, rfl, hm, hlen, hel, hown, hB⟩ := hrel
        have HLN := Lib.hid hlen
        have HEL := Lib.hid hel
        have HOY := Lib.hid hown
        have HBW := Lib.hid hB
        have hAW := HA.out.below (by rw [hg]; exact hB)
        have hBW := HB.out.below (by rw [hg]; exact hB)
        clear hlen hel hown hB
        by_cases hmt : m < q.length
        · obtain ⟨d, hd⟩ : ∃ d, k + m = d := ⟨_, rfl⟩
          have hidx : (k : Int) + (m : Int) = (d : Int) := by omega
          have hdn : d < n := by omega
          have hwd : IntKind.i64.wrap (d : Int) = (d : Int) := by rw [IntKind.wrap_i64]; omega
          obtain ⟨_, _, _, _, hcz, hfz⟩ := HOY.out.at d (by rw [HLN.out]; omega)
          obtain ⟨b1, o1, rfl, hc1⟩ := hAW.el k hlt
          obtain ⟨b2, o2, rfl, hc2⟩ := hBW.el m hmt
          have HDK := Lib.hid hd
          clear hAW hBW hd
          have hb1 := HA.out.lt hp0
          have hb2 := HB.out.lt hq0
          go_wp2_with fail
          have hmx : Try.prog.follows .mixedOrders = true := by kernel_rfl
          refine wp_region_held (S := fun W' => W'.cell? ⟨b1, o1 + k, none⟩ = some (.int .u8 ((PM.el p k).v : Int)) ∧ W'.cell? ⟨b2, o2 + m, none⟩ = some (.int .u8 ((PM.el q m).v : Int))) hmx ?_
          have hHeld := (show (fun W' : World => W'.cell? ⟨b1, o1 + k, none⟩ = some (.int .u8 ((PM.el p k).v : Int)) ∧ W'.cell? ⟨b2, o2 + m, none⟩ = some (.int .u8 ((PM.el q m).v : Int))) wr.drew from ⟨hc1, hc2⟩)
          refine wpAnyH_at 0 (some 51) (v := ?_) rfl rfl (by kernel_rfl) (by kernel_rfl) (by kernel_rfl) (fun _ _ _ h => h) (Or.inl ⟨by rfl, ?_⟩) hHeld ?_
          rotate_left
          · (intro W2 hSw; obtain ⟨j2, j3⟩ := hSw; go_simp; try with_reducible rfl)
          simp only [Act.put, List.setIfInBounds_toArray, List.set_cons_zero, List.set_cons_succ]
          refine wpAnyH_at 1 (some 52) (v := ?_) rfl rfl (by kernel_rfl) (by kernel_rfl) (by kernel_rfl) (fun _ _ _ h => h) (Or.inl ⟨by rfl, ?_⟩) hHeld ?_
          rotate_left
          · (intro W2 hSw; obtain ⟨j2, j3⟩ := hSw; go_simp; try with_reducible rfl)
          simp only [Act.put, List.setIfInBounds_toArray, List.set_cons_zero, List.set_cons_succ]
          refine wpAnyH_at 2 (some 53) (v := ?_) rfl rfl (by kernel_rfl) (by kernel_rfl) (by kernel_rfl) (fun _ _ _ h => h) (Or.inl ⟨by rfl, ?_⟩) hHeld ?_
          rotate_left
          · (intro W2 hSw; obtain ⟨j2, j3⟩ := hSw; go_simp; try with_reducible rfl)
          simp only [Act.put, List.setIfInBounds_toArray, List.set_cons_zero, List.set_cons_succ]
          refine wpAnyH_at 3 (some 54) (v := ?_) rfl rfl (by kernel_rfl) (by kernel_rfl) (by kernel_rfl) (fun _ _ _ h => h) (Or.inl ⟨by rfl, ?_⟩) hHeld ?_
          rotate_left
          · (intro W2 hSw; obtain ⟨j2, j3⟩ := hSw; go_simp; try with_reducible rfl)
          simp only [Act.put, List.setIfInBounds_toArray, List.set_cons_zero, List.set_cons_succ]
          refine wpAnyH_at 4 (some 55) (v := ?_) rfl rfl (by kernel_rfl) (by kernel_rfl) (by kernel_rfl) (fun _ _ _ h => h) (Or.inl ⟨by rfl, ?_⟩) hHeld ?_
          rotate_left
          · (intro W2 hSw; obtain ⟨j2, j3⟩ := hSw; go_simp; try with_reducible rfl)
          simp only [Act.put, List.setIfInBounds_toArray, List.set_cons_zero, List.set_cons_succ]
          refine wpAnyH_at 6 (some 57) (v := ?_) rfl rfl (by kernel_rfl) (by kernel_rfl) (by kernel_rfl) (fun _ _ _ h => h) (Or.inl ⟨by rfl, ?_⟩) hHeld ?_
          rotate_left
          · (intro W2 hSw; obtain ⟨j2, j3⟩ := hSw; go_simp; try with_reducible rfl)
          simp only [Act.put, List.setIfInBounds_toArray, List.set_cons_zero, List.set_cons_succ]
          refine wpAnyH_at 7 (some 58) (v := ?_) rfl rfl (by kernel_rfl) (by kernel_rfl) (by kernel_rfl) (fun _ _ _ h => h) (Or.inl ⟨by rfl, ?_⟩) hHeld ?_
          rotate_left
          · (intro W2 hSw; obtain ⟨j2, j3⟩ := hSw; go_simp; try with_reducible rfl)
          simp only [Act.put, List.setIfInBounds_toArray, List.set_cons_zero, List.set_cons_succ]
          refine wpAnyH_at 8 (some 59) (v := ?_) rfl rfl (by kernel_rfl) (by kernel_rfl) (by kernel_rfl) (fun _ _ _ h => h) (Or.inl ⟨by rfl, ?_⟩) hHeld ?_
          rotate_left
          · (intro W2 hSw; obtain ⟨j2, j3⟩ := hSw; go_simp; try with_reducible rfl)
          simp only [Act.put, List.setIfInBounds_toArray, List.set_cons_zero, List.set_cons_succ]
          refine wpAnyH_at 9 (some 60) (v := ?_) rfl rfl (by kernel_rfl) (by kernel_rfl) (by kernel_rfl) (fun _ _ _ h => h) (Or.inl ⟨by rfl, ?_⟩) hHeld ?_
          rotate_left
          · (intro W2 hSw; obtain ⟨j2, j3⟩ := hSw; go_simp; try with_reducible rfl)
          simp only [Act.put, List.setIfInBounds_toArray, List.set_cons_zero, List.set_cons_succ]
          refine wpAnyH_at 10 (some 61) (v := ?_) rfl rfl (by kernel_rfl) (by kernel_rfl) (by kernel_rfl) (fun _ _ _ h => h) (Or.inl ⟨by rfl, ?_⟩) hHeld ?_
          rotate_left
          · (intro W2 hSw; obtain ⟨j2, j3⟩ := hSw; go_simp; try with_reducible rfl)
          simp only [Act.put, List.setIfInBounds_toArray, List.set_cons_zero, List.set_cons_succ]
          refine wpAnyH_at 11 (some 62) (v := ?_) rfl rfl (by kernel_rfl) (by kernel_rfl) (by kernel_rfl) (fun _ _ _ h => h) (Or.inl ⟨by rfl, ?_⟩) hHeld ?_
          rotate_left
          · (intro W2 hSw; obtain ⟨j2, j3⟩ := hSw; go_simp; try with_reducible rfl)
          simp only [Act.put, List.setIfInBounds_toArray, List.set_cons_zero, List.set_cons_succ]
          refine wpAnyH_at 12 (some 63) (v := ?_) rfl rfl (by kernel_rfl) (by kernel_rfl) (by kernel_rfl) (fun _ _ _ h => h) (Or.inl ⟨by rfl, ?_⟩) hHeld ?_
          rotate_left
          · (intro W2 hSw; obtain ⟨j2, j3⟩ := hSw; go_simp; try with_reducible rfl)
          simp only [Act.put, List.setIfInBounds_toArray, List.set_cons_zero, List.set_cons_succ]
          refine wpAnyH_at 13 (some 64) (v := ?_) rfl rfl (by kernel_rfl) (by kernel_rfl) (by kernel_rfl) (fun _ _ _ h => h) (Or.inl ⟨by rfl, ?_⟩) hHeld ?_
          rotate_left
          · (intro W2 hSw; obtain ⟨j2, j3⟩ := hSw; go_simp; try with_reducible rfl)
          simp only [Act.put, List.setIfInBounds_toArray, List.set_cons_zero, List.set_cons_succ]
          refine wpAnyH_ready (rs := [5, 14]) (by kernel_rfl) (by simp) ?_
          refine AllReadyH.cons rfl (fun K hK => ?_) (AllReadyH.cons rfl (fun K hK => ?_) AllReadyH.nil)
          · go_simp
            refine hK.out _ _ (show (fun W' : World => W'.cell? ⟨b1, o1 + k, none⟩ = some (.int .u8 ((PM.el p k).v : Int)) ∧ W'.cell? ⟨b2, o2 + m, none⟩ = some (.int .u8 ((PM.el q m).v : Int))) wr.drew from ⟨hc1, hc2⟩) (fun hHeld => ?_)
            clear hK K
            refine wpAnyH_ready (rs := [14]) (by kernel_rfl) (by simp) ?_
            refine AllReadyH.cons rfl (fun K hK => ?_) AllReadyH.nil
            go_simp
            (with_reducible refine (rfmul_any _ _ _).mono ?_)
            rintro e w1 ⟨rfl, rfl⟩
            refine hK.out _ _ (show (fun W' : World => W'.cell? ⟨b1, o1 + k, none⟩ = some (.int .u8 ((PM.el p k).v : Int)) ∧ W'.cell? ⟨b2, o2 + m, none⟩ = some (.int .u8 ((PM.el q m).v : Int))) wr.drew from ⟨hc1, hc2⟩) (fun hHeld => ?_)
            clear hK K
            refine wpAnyH_at 15 (some 66) (v := ?_) rfl rfl (by kernel_rfl) (by kernel_rfl) (by kernel_rfl) (fun _ _ _ h => h) (Or.inl ⟨by rfl, ?_⟩) hHeld ?_
            rotate_left
            · (intro W2 hSw; obtain ⟨j2, j3⟩ := hSw; go_simp; try with_reducible rfl)
            simp only [Act.put, List.setIfInBounds_toArray, List.set_cons_zero, List.set_cons_succ]
            refine wpAnyH_at 16 (some 67) (v := ?_) rfl rfl (by kernel_rfl) (by kernel_rfl) (by kernel_rfl) (fun _ _ _ h => h) (Or.inl ⟨by rfl, ?_⟩) hHeld ?_
            rotate_left
            · (intro W2 hSw; obtain ⟨j2, j3⟩ := hSw; go_simp; try with_reducible rfl)
            simp only [Act.put, List.setIfInBounds_toArray, List.set_cons_zero, List.set_cons_succ]
            refine wpAnyH_ready (rs := [17]) (by kernel_rfl) (by simp) ?_
            refine AllReadyH.cons rfl (fun K hK => ?_) AllReadyH.nil
            go_simp
            refine hK.out _ _ ⟨(cell_other _ (show b1 ≠ g by omega)).trans hc1, (cell_other _ (show b2 ≠ g by omega)).trans hc2⟩ (fun _ => wpAnyH_done (by kernel_rfl) ?_ _)
            clear hK K
            go_wp2_with fail
            go_roundw
            case rel => exact rmul_step HDK.out hmt (by omega) HLN.out HEL.out HOY.out HBW.out rfl
            case measure => simp [intOf]; omega
          · go_simp
            (with_reducible refine (rfmul_any _ _ _).mono ?_)
            rintro e w1 ⟨rfl, rfl⟩
            refine hK.out _ _ (show (fun W' : World => W'.cell? ⟨b1, o1 + k, none⟩ = some (.int .u8 ((PM.el p k).v : Int)) ∧ W'.cell? ⟨b2, o2 + m, none⟩ = some (.int .u8 ((PM.el q m).v : Int))) wr.drew from ⟨hc1, hc2⟩) (fun hHeld => ?_)
            clear hK K
            refine wpAnyH_ready (rs := [5]) (by kernel_rfl) (by simp) ?_
            refine AllReadyH.cons rfl (fun K hK => ?_) AllReadyH.nil
            go_simp
            refine hK.out _ _ (show (fun W' : World => W'.cell? ⟨b1, o1 + k, none⟩ = some (.int .u8 ((PM.el p k).v : Int)) ∧ W'.cell? ⟨b2, o2 + m, none⟩ = some (.int .u8 ((PM.el q m).v : Int))) wr.drew from ⟨hc1, hc2⟩) (fun hHeld => ?_)
            clear hK K
            refine wpAnyH_at 15 (some 66) (v := ?_) rfl rfl (by kernel_rfl) (by kernel_rfl) (by kernel_rfl) (fun _ _ _ h => h) (Or.inl ⟨by rfl, ?_⟩) hHeld ?_
            rotate_left
            · (intro W2 hSw; obtain ⟨j2, j3⟩ := hSw; go_simp; try with_reducible rfl)
            simp only [Act.put, List.setIfInBounds_toArray, List.set_cons_zero, List.set_cons_succ]
            refine wpAnyH_at 16 (some 67) (v := ?_) rfl rfl (by kernel_rfl) (by kernel_rfl) (by kernel_rfl) (fun _ _ _ h => h) (Or.inl ⟨by rfl, ?_⟩) hHeld ?_
            rotate_left
            · (intro W2 hSw; obtain ⟨j2, j3⟩ := hSw; go_simp; try with_reducible rfl)
            simp only [Act.put, List.setIfInBounds_toArray, List.set_cons_zero, List.set_cons_succ]
            refine wpAnyH_ready (rs := [17]) (by kernel_rfl) (by simp) ?_
            refine AllReadyH.cons rfl (fun K hK => ?_) AllReadyH.nil
            go_simp
            refine hK.out _ _ ⟨(cell_other _ (show b1 ≠ g by omega)).trans hc1, (cell_other _ (show b2 ≠ g by omega)).trans hc2⟩ (fun _ => wpAnyH_done (by kernel_rfl) ?_ _)
            clear hK K
            go_wp2_with fail
            go_roundw
            case rel => exact rmul_step HDK.out hmt (by omega) HLN.out HEL.out HOY.out HBW.out rfl
            case measure => simp [intOf]; omega
        · obtain rfl : m = q.length := by omega
          clear hAW hBW
          go_wp2_with fail
          go_roundw
          case rel => exact rmul_next hlt HLN.out HEL.out HOY.out HBW.out
          case measure => simp [intOf]; omega
    · have hcoef : ∀ j, PM.el ys j = PM.conv (PM.el p) (PM.el q) j := fun j => by rw [hel, show k = p.length by omega, low_all]
      have HLN := Lib.hid hlen
      have HO := Lib.hid hown
      have HBW := Lib.hid hB
      have HC := Lib.hid hcoef
      clear hlen hel hown hB hcoef
      go_wp2_with fail
      exact bodyPost_ret (v := .tuple #[.slice (some ⟨g, 0, none⟩) n n, .int .i64 0]) (by simp [results, Try.results26, go_sem]) rfl ⟨⟨ys, some ⟨g, 0, none⟩, n, by rw [HLN.out], (show Own wr g (.slice (some ⟨g, 0, none⟩) ys.length n) ys by rw [HLN.out]; exact HO.out).rowAt, mul_pol HP.out HQ.out hp0 hq0 hl (by rw [HLN.out]; omega) HC.out, HC.out, fun b o e => by cases e; omega⟩, by rw [hg]; exact HBW.out⟩

set_option maxRecDepth 100000 in
set_option maxHeartbeats 1000000 in
theorem rmul_zero (a b : Option Addr) (ca cb : Nat) (p q : List PM.G) (w : World) (ha : Row w a p ca) (hb : Row w b q cb) (hp : Pol p) (hq : Pol q) (h0 : p.length = 0 ∨ q.length = 0) :
    Calls Try.prog 26 #[.slice a p.length ca, .slice b q.length cb] w fun e W => e = .returned (.tuple #[.slice none 0 0, .int .i64 0]) ∧ Below w.heap.size w W := by
  have HA := Lib.hid ha
  have HB := Lib.hid hb
  have HP := Lib.hid hp
  have HQ := Lib.hid hq
  clear ha hb hp hq
  by_cases hp0 : p.length = 0
  · have hz1 : ((p.length : Int) == 0) = true := by rw [hp0]; rfl
    clear hp0 h0
    go_enter Try.func26, Try.ntmps26
    go_wp2_with fail
    (with_reducible refine (rvalid_yes a p ca w HA.out HP.out).mono ?_)
    rintro e w1 ⟨rfl, rfl⟩
    go_wp2_with fail
    (with_reducible refine (rvalid_yes b q cb w HB.out HQ.out).mono ?_)
    rintro e w1 ⟨rfl, rfl⟩
    go_wp2_with fail
    exact bodyPost_ret (v := .tuple #[.slice none 0 0, .int .i64 0]) (by simp [results, Try.results26, go_sem]) rfl ⟨rfl, Below.refl _ _⟩
  · have hz1 : ((p.length : Int) == 0) = false := beq_false_of_ne (by omega)
    have hz2 : ((q.length : Int) == 0) = true := by rw [show q.length = 0 by omega]; rfl
    clear hp0 h0
    go_enter Try.func26, Try.ntmps26
    go_wp2_with fail
    (with_reducible refine (rvalid_yes a p ca w HA.out HP.out).mono ?_)
    rintro e w1 ⟨rfl, rfl⟩
    go_wp2_with fail
    (with_reducible refine (rvalid_yes b q cb w HB.out HQ.out).mono ?_)
    rintro e w1 ⟨rfl, rfl⟩
    go_wp2_with fail
    exact bodyPost_ret (v := .tuple #[.slice none 0 0, .int .i64 0]) (by simp [results, Try.results26, go_sem]) rfl ⟨rfl, Below.refl _ _⟩
set_option maxRecDepth 100000 in
set_option maxHeartbeats 1000000 in
theorem rmul_limit (a b : Option Addr) (ca cb : Nat) (p q : List PM.G) (w : World) (ha : Row w a p ca) (hb : Row w b q cb) (hp : Pol p) (hq : Pol q) (hp0 : 0 < p.length) (hq0 : 0 < q.length) (hl : 256 < p.length + q.length) :
    Calls Try.prog 26 #[.slice a p.length ca, .slice b q.length cb] w fun e W => e = .returned (.tuple #[.slice none 0 0, .int .i64 3]) ∧ Below w.heap.size w W := by
  have hlp := hp.len
  have hlq := hq.len
  have HA := Lib.hid ha
  have HB := Lib.hid hb
  have HP := Lib.hid hp
  have HQ := Lib.hid hq
  clear ha hb hp hq
  have hz1 : ((p.length : Int) == 0) = false := beq_false_of_ne (by omega)
  have hz2 : ((q.length : Int) == 0) = false := beq_false_of_ne (by omega)
  go_enter Try.func26, Try.ntmps26
  go_wp2_with fail
  (with_reducible refine (rvalid_yes a p ca w HA.out HP.out).mono ?_)
  rintro e w1 ⟨rfl, rfl⟩
  go_wp2_with fail
  (with_reducible refine (rvalid_yes b q cb w HB.out HQ.out).mono ?_)
  rintro e w1 ⟨rfl, rfl⟩
  go_wp2_with fail
  exact bodyPost_ret (v := .tuple #[.slice none 0 0, .int .i64 3]) (by simp [results, Try.results26, go_sem]) rfl ⟨rfl, Below.refl _ _⟩
end Go.Proofs.Ytijkgplglfmfnaa.P

namespace Go.Proofs.Ytijkgplglfmfnaa.P
open Go Go.RowKit Go.Shelf
open RF (rmul_any rinverse_any)

def RDOut (w : World) (g gr n m cr : Nat) (p q : List PM.G) (iv : Value) (W : World) : Prop :=
  ∃ (k : Nat) (A R : List PM.G), iv = .int .i64 ((k : Int) - 1) ∧ k ≤ n ∧ Own W w.heap.size (.slice (some ⟨g, 0, none⟩) n n) A ∧ A.length = n ∧ Own W w.heap.size (.slice (some ⟨gr, 0, none⟩) m cr) R ∧ R.length = m ∧ (∀ j, j < k → PM.el A j = 0) ∧
    (∀ j, k + (q.length - 1) ≤ j → PM.el R j = 0) ∧ (∀ j, PM.el p j = PM.conv (PM.el A) (PM.el q) j + PM.el R j) ∧ Below w.heap.size w W
def RDIn (w : World) (g gr n m cr : Nat) (q A R : List PM.G) (f : PM.G) (k : Nat) (iv : Value) (W : World) : Prop :=
  ∃ (t : Nat) (ys : List PM.G), iv = .int .i64 (t : Int) ∧ t ≤ q.length ∧ ys.length = m ∧ (∀ j, PM.el ys j = PM.el R j + part f q k t j) ∧ Own W w.heap.size (.slice (some ⟨gr, 0, none⟩) m cr) ys ∧ Own W w.heap.size (.slice (some ⟨g, 0, none⟩) n n) A ∧ Below w.heap.size w W
theorem rdiv_step {w wr W' : World} {g gr n mm cr k m d : Nat} {q A R ys : List PM.G} {f : PM.G} (hd : k + m = d) (hm : m < q.length) (hfit : k + q.length ≤ mm) (hgg : g ≠ gr) (hl : ys.length = mm) (he : ∀ j, PM.el ys j = PM.el R j + part f q k m j)
    (ho : Own wr w.heap.size (.slice (some ⟨gr, 0, none⟩) mm cr) ys) (hA : Own wr w.heap.size (.slice (some ⟨g, 0, none⟩) n n) A) (hB : Below w.heap.size w wr) (hgr : w.heap.size ≤ gr)
    (hW : W' = (wr.drewN 1).setCell ⟨gr, d, none⟩ (.int .u8 (bits BinOp.xor IntKind.u8 ((PM.el ys d).v : Int) ((f * PM.el q m).v : Int)))) :
    RDIn w g gr n mm cr q A R f k (.int .i64 ((m : Int) + 1)) W' := by
  subst hW hd
  rw [xor_G]
  refine ⟨m + 1, ys.set (k + m) (PM.el ys (k + m) + f * PM.el q m), by go_num, hm, by rw [List.length_set]; exact hl, fun j => ?_, ?_, (hA.drewN 1).other _ (by simp [Value.ownBlock]; omega), (belowN hB 1).setCell (p := ⟨gr, k + m, none⟩) hgr _⟩
  · rw [PM.el_set (by omega), part_step]
    by_cases e : j = k + m
    · subst e; rw [if_pos rfl, if_pos rfl, he, part_at, PM.G.add_zero]
    · rw [if_neg e, if_neg e, he]
  · subst hl
    exact (ho.drewN 1).set (k + m) (PM.el ys (k + m) + f * PM.el q m)

set_option maxRecDepth 100000 in
set_option maxHeartbeats 1000000 in
theorem rdiv_long (a b : Option Addr) (ca cb : Nat) (p q : List PM.G) (w : World) (ha : Row w a p ca) (hb : Row w b q cb) (hp : Pol p) (hq : Pol q) (hq0 : 0 < q.length) (hl : q.length ≤ p.length) :
    Calls Try.prog 28 #[.slice a p.length ca, .slice b q.length cb] w fun e W => DRes p q e W ∧ Below w.heap.size w W := by
  have hra := ha.room
  have hma := ha.most
  have hrb := hb.room
  have hmb := hb.most
  have hlp := hp.len
  have hlq := hq.len
  have HA := Lib.hid ha
  have HB := Lib.hid hb
  have HP := Lib.hid hp
  have HQ := Lib.hid hq
  clear ha hb hp hq
  have hz : ((q.length : Int) == 0) = false := beq_false_of_ne (by omega)
  obtain ⟨nq, hnq⟩ : ∃ nq, q.length - 1 = nq := ⟨_, rfl⟩
  have hci : (q.length : Int) - 1 = (nq : Int) := by omega
  have hcl : nq < q.length := by omega
  have hwc : IntKind.i64.wrap (nq : Int) = (nq : Int) := by rw [IntKind.wrap_i64]; omega
  obtain ⟨b2, o2, rfl, hct⟩ := HB.out.el nq hcl
  obtain ⟨n, hn⟩ : ∃ n, p.length + 1 - q.length = n := ⟨_, rfl⟩
  have HI := Lib.hid (rinverse_any (PM.el q nq).v (PM.el q nq).lt)
  have HNQ := Lib.hid hnq
  clear hnq
  go_enter Try.func28, Try.ntmps28
  go_wp2_with fail
  (with_reducible refine (rvalid_yes a p ca w HA.out HP.out).mono ?_)
  rintro e w1 ⟨rfl, rfl⟩
  go_wp2_with fail
  (with_reducible refine (rvalid_yes _ q cb w HB.out HQ.out).mono ?_)
  rintro e w1 ⟨rfl, rfl⟩
  go_upto_region 6 with (at_builtin; refine wpList_appAny rfl _ _ rfl (B := w.heap.size) (zs := []) (ys := p) rfl (Own.nil _ _) rfl HA.out (by show 0 + _ < 1000000; omega) (Nat.le_refl _) ?_; intro a' cr w2 hown' hb'; have HO := Lib.hid hown'; have HB2 := Lib.hid hb'; clear hown' hb')
  have ho := HO.out
  rw [List.nil_append] at ho
  obtain ⟨gr, rfl, hgr1, hgr2⟩ := ho.fresh (by omega)
  have HOR := Lib.hid ho
  have hct2 := cell_below HB2.out hct
  clear HO ho
  go_upto_region 9 with (at_make; refine wpList_make1 rfl _ _ rfl n rfl rfl (by omega) (by omega) (B := w2.heap.size) (Nat.le_refl _) ?_; intro w3 hown3 hb3; rw [List.length_replicate] at hown3; have HOA := Lib.hid hown3; have HB3 := Lib.hid hb3; clear hown3 hb3)
  have hct3 := cell_below HB3.out hct2
  have hs2 := HB2.out.size
  have hOR3 := Lib.hid (HOR.out.below HB3.out)
  have hB03 := Lib.hid (HB2.out.trans (HB3.out.mono hs2))
  go_wp2_with fail
  (with_reducible refine (HI.out _).mono ?_)
  rintro e w4 ⟨rfl, rfl⟩
  obtain ⟨g, hg⟩ : ∃ g, w2.heap.size = g := ⟨_, rfl⟩
  obtain ⟨iv, hiv⟩ : ∃ iv : PM.G, iv = (PM.el q nq).inv := ⟨_, rfl⟩
  have hivv : (FM.invV (PM.el q nq).v : Int) = (iv.v : Int) := by rw [hiv]; rfl
  rw [hg] at HOA hgr2 ⊢
  rw [hivv]
  have hst : RDOut w g gr n p.length cr p q (.int .i64 ((n : Int) - 1)) w3 :=
    ⟨n, _, p, rfl, Nat.le_refl _, HOA.out.mono (by omega), List.length_replicate, hOR3.out, rfl, fun j _ => PM.el_replicate n j, fun j hj => PM.el_ge (by omega), fun j => by
      rw [show PM.el (List.replicate n (0 : PM.G)) = PM.zeroC from funext (PM.el_replicate n), PM.conv_zeroC_l, PM.G.zero_add], hB03.out⟩
  have HST := Lib.hid hst
  have HIV := Lib.hid hiv
  have hst0 : (p.length : Int) - (q.length : Int) = (n : Int) - 1 := by omega
  have hgg : g ≠ gr := by omega
  clear hst hiv hivv HI HOR hct hct2 hct3 hOR3 HOA hB03
  clear HB2 HB3
  go_wp2_with fail
  go_loopw [11] (fun i wr => RDOut w g gr n p.length cr p q i wr) (fun i _ => (intOf i + 1).toNat)
  case atStart => exact HST.out
  case round =>
    clear HST hst0
    obtain ⟨k, A, R, rfl, hk, hOA, hlA, hOR, hlR, hzA, hzR, heq, hB⟩ := hrel
    have HOA := Lib.hid hOA
    have HLA := Lib.hid hlA
    have HOR := Lib.hid hOR
    have HLR := Lib.hid hlR
    have HZA := Lib.hid hzA
    have HZR := Lib.hid hzR
    have HEQ := Lib.hid heq
    have HBB := Lib.hid hB
    clear hOA hlA hOR hlR hzA hzR heq hB
    cases k with
    | zero =>
      have e1 : ((0 : Nat) : Int) - 1 = -1 := by omega
      rw [e1]
      have hTA := Lib.hid (rtrim_any (some ⟨g, 0, none⟩) A n wr (show Row wr _ A n from (show Own wr w.heap.size (.slice (some ⟨g, 0, none⟩) A.length n) A by rw [HLA.out]; exact HOA.out).rowAt) (by rw [HLA.out]; omega))
      rw [HLA.out] at hTA
      go_wp2_with fail
      (with_reducible refine hTA.out.mono ?_)
      rintro e w5 ⟨⟨a5, c5, rfl, ho5⟩, hb5⟩
      have hTR := Lib.hid (rtrim_any (some ⟨gr, 0, none⟩) R cr w5 ((show Row wr _ R cr from (show Own wr w.heap.size (.slice (some ⟨gr, 0, none⟩) R.length cr) R by rw [HLR.out]; exact HOR.out).rowAt).below hb5) (by rw [HLR.out]; omega))
      rw [HLR.out] at hTR
      have HO5 := Lib.hid ho5
      have HB5 := Lib.hid (HBB.out.trans (hb5.mono HBB.out.size))
      clear ho5 hb5
      go_wp2_with fail
      (with_reducible refine hTR.out.mono ?_)
      rintro e w6 ⟨⟨a6, c6, rfl, ho6⟩, hb6⟩
      have hpolR : Pol (PM.trimL R) := ⟨PM.can_trimL R, by have := PM.trimL_len R; have := HLR.out; omega⟩
      have hde := div_eq HP.out hq0 hl hpolR (fun k => PM.el_trimL R k) HZR.out HEQ.out (by rw [HLA.out, hn])
      have hTA2 : PM.trimL A = A := PM.trimL_can hde.canq
      have HDE := Lib.hid hde
      have hr5 := (HO5.out.rowAt).below hb6
      rw [hTA2] at hr5 ⊢
      have HR5 := Lib.hid hr5
      have HR6 := Lib.hid ho6.rowAt
      have HB6 := Lib.hid (HB5.out.trans (hb6.mono HB5.out.size))
      clear hr5 ho6 hb6 hde hTA2 hTA hTR HO5
      go_wp2_with fail
      exact bodyPost_ret (v := .tuple #[.slice a5 A.length c5, .slice a6 (PM.trimL R).length c6, .int .i64 0]) (by simp [results, Try.results28, go_sem]) rfl ⟨⟨A, PM.trimL R, a5, c5, a6, c6, rfl, HR5.out, HR6.out, HDE.out⟩, HB6.out⟩
    | succ k =>
      have e1 : ((k + 1 : Nat) : Int) - 1 = (k : Int) := by omega
      rw [e1]
      obtain ⟨d0, hd0⟩ : ∃ d0, k + nq = d0 := ⟨_, rfl⟩
      have hqq : (q.length : Int) = (nq : Int) + 1 := by omega
      have hidx0 : (k : Int) + (q.length : Int) - 1 = (d0 : Int) := by omega
      have hd0l : d0 < p.length := by have := HNQ.out; omega
      have hwd0 : IntKind.i64.wrap (d0 : Int) = (d0 : Int) := by rw [IntKind.wrap_i64]; omega
      clear hqq
      obtain ⟨_, _, hcrm, hcrl, hr1, _⟩ := HOR.out.at d0 (by rw [HLR.out]; exact hd0l)
      obtain ⟨_, _, _, _, ha1, ha2⟩ := HOA.out.at k (by rw [HLA.out]; omega)
      have hkn : k < n := by omega
      have hplc : p.length ≤ cr := by have := HLR.out; omega
      go_upto_region 14 with (go_at_call 22; refine (rfmul_any _ _ _).mono ?_; rintro e w5 ⟨rfl, rfl⟩)
      obtain ⟨f, hf⟩ : ∃ f, PM.el R d0 * iv = f := ⟨_, rfl⟩
      rw [hf]
      obtain ⟨w6, hw6⟩ : ∃ w6, wr.setCell ⟨g, k, none⟩ (.int .u8 (f.v : Int)) = w6 := ⟨_, rfl⟩
      have hi0 : RDIn w g gr n p.length cr q (A.set k f) R f k (.int .i64 0) w6 := by
        refine ⟨0, R, rfl, Nat.zero_le _, HLR.out, fun j => by rw [part_zero, PM.G.add_zero], ?_, ?_, ?_⟩
        · rw [← hw6]; exact HOR.out.other _ (by simp [Value.ownBlock]; omega)
        · rw [← hw6]
          have := (show Own wr w.heap.size (.slice (some ⟨g, 0, none⟩) A.length n) A by rw [HLA.out]; exact HOA.out).set k f
          rwa [HLA.out] at this
        · rw [← hw6]; exact HBB.out.setCell (p := ⟨g, k, none⟩) (by show w.heap.size ≤ g; omega) _
      have HI0 := Lib.hid hi0
      have HF := Lib.hid hf
      have HD0 := Lib.hid hd0
      clear hi0 hf hd0 hr1
      go_wp2_with fail
      clear ha1 ha2 hidx0 hwd0 hw6
      go_loopw [13] (fun i wq => RDIn w g gr n p.length cr q (A.set k f) R f k i wq) (fun i _ => q.length - (intOf i).toNat)
      case atStart => exact HI0.out
      case round =>
        clear HI0
        obtain ⟨m, ys, rfl, hm, hlen, hel, hown, hownA, hB⟩ := hrel
        have HLN := Lib.hid hlen
        have HEL := Lib.hid hel
        have HOY := Lib.hid hown
        have HOA2 := Lib.hid hownA
        have HBW := Lib.hid hB
        have hBW := HB.out.below hB
        clear hlen hel hown hownA hB
        by_cases hmt : m < q.length
        · obtain ⟨d, hd⟩ : ∃ d, k + m = d := ⟨_, rfl⟩
          have hidx : (k : Int) + (m : Int) = (d : Int) := by omega
          have hdn : d < p.length := by omega
          have hwd : IntKind.i64.wrap (d : Int) = (d : Int) := by rw [IntKind.wrap_i64]; omega
          obtain ⟨_, _, _, _, hcz, hfz⟩ := HOY.out.at d (by rw [HLN.out]; omega)
          have hc2 := hBW.cell m hmt
          have hb2 := HB.out.lt hq0
          have HDK := Lib.hid hd
          clear hBW hd
          go_wp2_with fail
          have hmx : Try.prog.follows .mixedOrders = true := by kernel_rfl
          refine wp_region_held (S := fun W' => W'.cell? ⟨b2, o2 + m, none⟩ = some (.int .u8 ((PM.el q m).v : Int))) hmx ?_
          have hHeld := (show (fun W' : World => W'.cell? ⟨b2, o2 + m, none⟩ = some (.int .u8 ((PM.el q m).v : Int))) wr.drew from hc2)
          refine wpAnyH_at 0 (some 78) (v := ?_) rfl rfl (by kernel_rfl) (by kernel_rfl) (by kernel_rfl) (fun _ _ _ h => h) (Or.inl ⟨by rfl, ?_⟩) hHeld ?_
          rotate_left
          · (intro W2 hSw; have j2 := hSw; go_simp; try with_reducible rfl)
          simp only [Act.put, List.setIfInBounds_toArray, List.set_cons_zero, List.set_cons_succ]
          refine wpAnyH_at 1 (some 79) (v := ?_) rfl rfl (by kernel_rfl) (by kernel_rfl) (by kernel_rfl) (fun _ _ _ h => h) (Or.inl ⟨by rfl, ?_⟩) hHeld ?_
          rotate_left
          · (intro W2 hSw; have j2 := hSw; go_simp; try with_reducible rfl)
          simp only [Act.put, List.setIfInBounds_toArray, List.set_cons_zero, List.set_cons_succ]
          refine wpAnyH_at 2 (some 80) (v := ?_) rfl rfl (by kernel_rfl) (by kernel_rfl) (by kernel_rfl) (fun _ _ _ h => h) (Or.inl ⟨by rfl, ?_⟩) hHeld ?_
          rotate_left
          · (intro W2 hSw; have j2 := hSw; go_simp; try with_reducible rfl)
          simp only [Act.put, List.setIfInBounds_toArray, List.set_cons_zero, List.set_cons_succ]
          refine wpAnyH_at 3 (some 81) (v := ?_) rfl rfl (by kernel_rfl) (by kernel_rfl) (by kernel_rfl) (fun _ _ _ h => h) (Or.inl ⟨by rfl, ?_⟩) hHeld ?_
          rotate_left
          · (intro W2 hSw; have j2 := hSw; go_simp; try with_reducible rfl)
          simp only [Act.put, List.setIfInBounds_toArray, List.set_cons_zero, List.set_cons_succ]
          refine wpAnyH_at 4 (some 82) (v := ?_) rfl rfl (by kernel_rfl) (by kernel_rfl) (by kernel_rfl) (fun _ _ _ h => h) (Or.inl ⟨by rfl, ?_⟩) hHeld ?_
          rotate_left
          · (intro W2 hSw; have j2 := hSw; go_simp; try with_reducible rfl)
          simp only [Act.put, List.setIfInBounds_toArray, List.set_cons_zero, List.set_cons_succ]
          refine wpAnyH_at 6 (some 84) (v := ?_) rfl rfl (by kernel_rfl) (by kernel_rfl) (by kernel_rfl) (fun _ _ _ h => h) (Or.inl ⟨by rfl, ?_⟩) hHeld ?_
          rotate_left
          · (intro W2 hSw; have j2 := hSw; go_simp; try with_reducible rfl)
          simp only [Act.put, List.setIfInBounds_toArray, List.set_cons_zero, List.set_cons_succ]
          refine wpAnyH_at 7 (some 85) (v := ?_) rfl rfl (by kernel_rfl) (by kernel_rfl) (by kernel_rfl) (fun _ _ _ h => h) (Or.inl ⟨by rfl, ?_⟩) hHeld ?_
          rotate_left
          · (intro W2 hSw; have j2 := hSw; go_simp; try with_reducible rfl)
          simp only [Act.put, List.setIfInBounds_toArray, List.set_cons_zero, List.set_cons_succ]
          refine wpAnyH_at 8 (some 86) (v := ?_) rfl rfl (by kernel_rfl) (by kernel_rfl) (by kernel_rfl) (fun _ _ _ h => h) (Or.inl ⟨by rfl, ?_⟩) hHeld ?_
          rotate_left
          · (intro W2 hSw; have j2 := hSw; go_simp; try with_reducible rfl)
          simp only [Act.put, List.setIfInBounds_toArray, List.set_cons_zero, List.set_cons_succ]
          refine wpAnyH_at 9 (some 87) (v := ?_) rfl rfl (by kernel_rfl) (by kernel_rfl) (by kernel_rfl) (fun _ _ _ h => h) (Or.inl ⟨by rfl, ?_⟩) hHeld ?_
          rotate_left
          · (intro W2 hSw; have j2 := hSw; go_simp; try with_reducible rfl)
          simp only [Act.put, List.setIfInBounds_toArray, List.set_cons_zero, List.set_cons_succ]
          refine wpAnyH_at 10 (some 88) (v := ?_) rfl rfl (by kernel_rfl) (by kernel_rfl) (by kernel_rfl) (fun _ _ _ h => h) (Or.inl ⟨by rfl, ?_⟩) hHeld ?_
          rotate_left
          · (intro W2 hSw; have j2 := hSw; go_simp; try with_reducible rfl)
          simp only [Act.put, List.setIfInBounds_toArray, List.set_cons_zero, List.set_cons_succ]
          refine wpAnyH_ready (rs := [5, 11]) (by kernel_rfl) (by simp) ?_
          refine AllReadyH.cons rfl (fun K hK => ?_) (AllReadyH.cons rfl (fun K hK => ?_) AllReadyH.nil)
          · go_simp
            refine hK.out _ _ (show (fun W' : World => W'.cell? ⟨b2, o2 + m, none⟩ = some (.int .u8 ((PM.el q m).v : Int))) wr.drew from hc2) (fun hHeld => ?_)
            clear hK K
            refine wpAnyH_ready (rs := [11]) (by kernel_rfl) (by simp) ?_
            refine AllReadyH.cons rfl (fun K hK => ?_) AllReadyH.nil
            go_simp
            (with_reducible refine (rfmul_any _ _ _).mono ?_)
            rintro e w1 ⟨rfl, rfl⟩
            refine hK.out _ _ (show (fun W' : World => W'.cell? ⟨b2, o2 + m, none⟩ = some (.int .u8 ((PM.el q m).v : Int))) wr.drew from hc2) (fun hHeld => ?_)
            clear hK K
            refine wpAnyH_at 12 (some 90) (v := ?_) rfl rfl (by kernel_rfl) (by kernel_rfl) (by kernel_rfl) (fun _ _ _ h => h) (Or.inl ⟨by rfl, ?_⟩) hHeld ?_
            rotate_left
            · (intro W2 hSw; have j2 := hSw; go_simp; try with_reducible rfl)
            simp only [Act.put, List.setIfInBounds_toArray, List.set_cons_zero, List.set_cons_succ]
            refine wpAnyH_at 13 (some 91) (v := ?_) rfl rfl (by kernel_rfl) (by kernel_rfl) (by kernel_rfl) (fun _ _ _ h => h) (Or.inl ⟨by rfl, ?_⟩) hHeld ?_
            rotate_left
            · (intro W2 hSw; have j2 := hSw; go_simp; try with_reducible rfl)
            simp only [Act.put, List.setIfInBounds_toArray, List.set_cons_zero, List.set_cons_succ]
            refine wpAnyH_ready (rs := [14]) (by kernel_rfl) (by simp) ?_
            refine AllReadyH.cons rfl (fun K hK => ?_) AllReadyH.nil
            go_simp
            refine hK.out _ _ ((cell_other _ (show b2 ≠ gr by omega)).trans hc2) (fun _ => wpAnyH_done (by kernel_rfl) ?_ _)
            clear hK K
            go_wp2_with fail
            go_roundw
            case rel => exact rdiv_step HDK.out hmt (by omega) hgg HLN.out HEL.out HOY.out HOA2.out HBW.out (by omega) rfl
            case measure => simp [intOf]; omega
          · go_simp
            (with_reducible refine (rfmul_any _ _ _).mono ?_)
            rintro e w1 ⟨rfl, rfl⟩
            refine hK.out _ _ (show (fun W' : World => W'.cell? ⟨b2, o2 + m, none⟩ = some (.int .u8 ((PM.el q m).v : Int))) wr.drew from hc2) (fun hHeld => ?_)
            clear hK K
            refine wpAnyH_ready (rs := [5]) (by kernel_rfl) (by simp) ?_
            refine AllReadyH.cons rfl (fun K hK => ?_) AllReadyH.nil
            go_simp
            refine hK.out _ _ (show (fun W' : World => W'.cell? ⟨b2, o2 + m, none⟩ = some (.int .u8 ((PM.el q m).v : Int))) wr.drew from hc2) (fun hHeld => ?_)
            clear hK K
            refine wpAnyH_at 12 (some 90) (v := ?_) rfl rfl (by kernel_rfl) (by kernel_rfl) (by kernel_rfl) (fun _ _ _ h => h) (Or.inl ⟨by rfl, ?_⟩) hHeld ?_
            rotate_left
            · (intro W2 hSw; have j2 := hSw; go_simp; try with_reducible rfl)
            simp only [Act.put, List.setIfInBounds_toArray, List.set_cons_zero, List.set_cons_succ]
            refine wpAnyH_at 13 (some 91) (v := ?_) rfl rfl (by kernel_rfl) (by kernel_rfl) (by kernel_rfl) (fun _ _ _ h => h) (Or.inl ⟨by rfl, ?_⟩) hHeld ?_
            rotate_left
            · (intro W2 hSw; have j2 := hSw; go_simp; try with_reducible rfl)
            simp only [Act.put, List.setIfInBounds_toArray, List.set_cons_zero, List.set_cons_succ]
            refine wpAnyH_ready (rs := [14]) (by kernel_rfl) (by simp) ?_
            refine AllReadyH.cons rfl (fun K hK => ?_) AllReadyH.nil
            go_simp
            refine hK.out _ _ ((cell_other _ (show b2 ≠ gr by omega)).trans hc2) (fun _ => wpAnyH_done (by kernel_rfl) ?_ _)
            clear hK K
            go_wp2_with fail
            go_roundw
            case rel => exact rdiv_step HDK.out hmt (by omega) hgg HLN.out HEL.out HOY.out HOA2.out HBW.out (by omega) rfl
            case measure => simp [intOf]; omega
        · obtain rfl : m = q.length := by omega
          have hm := div_math (d := d0) (by rw [HNQ.out]; exact HD0.out) (by rw [HLA.out]; exact hkn) hq0 (HQ.out.can hq0) HZA.out HZR.out HEQ.out (f := f) (by rw [HNQ.out, ← HIV.out]; exact HF.out) (ys := ys) (fun j => by rw [HEL.out, part_all])
          have hrel : RDOut w g gr n p.length cr p q (.int .i64 ((k : Int) - 1)) wr := ⟨k, A.set k f, ys, rfl, by omega, HOA2.out, by rw [List.length_set]; exact HLA.out, HOY.out, HLN.out, hm.1, hm.2.1, hm.2.2, HBW.out⟩
          have HREL := Lib.hid hrel
          clear hm hrel hBW
          go_wp2_with fail
          go_roundw
          case rel => exact HREL.out
          case measure => simp [intOf]
end Go.Proofs.Ytijkgplglfmfnaa.P

namespace Go.Proofs.Ytijkgplglfmfnaa.P
open Go Go.RowKit Go.Shelf
open RF (rmul_any rinverse_any)

set_option maxRecDepth 100000 in
set_option maxHeartbeats 1000000 in
theorem rdiv_short (a b : Option Addr) (ca cb : Nat) (p q : List PM.G) (w : World) (ha : Row w a p ca) (hb : Row w b q cb) (hp : Pol p) (hq : Pol q) (hl : p.length < q.length) :
    Calls Try.prog 28 #[.slice a p.length ca, .slice b q.length cb] w fun e W => DRes p q e W ∧ Below w.heap.size w W := by
  have hra := ha.room
  have hma := ha.most
  have hrb := hb.room
  have hmb := hb.most
  have hlp := hp.len
  have hlq := hq.len
  have HA := Lib.hid ha
  have HB := Lib.hid hb
  have HP := Lib.hid hp
  have HQ := Lib.hid hq
  clear ha hb hp hq
  have hz : ((q.length : Int) == 0) = false := beq_false_of_ne (by omega)
  obtain ⟨nq, hnq⟩ : ∃ nq, q.length - 1 = nq := ⟨_, rfl⟩
  have hci : (q.length : Int) - 1 = (nq : Int) := by omega
  have hcl : nq < q.length := by omega
  have hwc : IntKind.i64.wrap (nq : Int) = (nq : Int) := by rw [IntKind.wrap_i64]; omega
  obtain ⟨b2, o2, rfl, hct⟩ := HB.out.el nq hcl
  have HI := Lib.hid (rinverse_any (PM.el q nq).v (PM.el q nq).lt)
  clear hnq
  go_enter Try.func28, Try.ntmps28
  go_wp2_with fail
  (with_reducible refine (rvalid_yes a p ca w HA.out HP.out).mono ?_)
  rintro e w1 ⟨rfl, rfl⟩
  go_wp2_with fail
  (with_reducible refine (rvalid_yes _ q cb w HB.out HQ.out).mono ?_)
  rintro e w1 ⟨rfl, rfl⟩
  go_upto_region 6 with (at_builtin; refine wpList_appAny rfl _ _ rfl (B := w.heap.size) (zs := []) (ys := p) rfl (Own.nil _ _) rfl HA.out (by show 0 + _ < 1000000; omega) (Nat.le_refl _) ?_; intro a' cr w2 hown' hb'; have HO := Lib.hid hown'; have HB2 := Lib.hid hb'; clear hown' hb')
  have ho := HO.out
  rw [List.nil_append] at ho
  have hcc := ho.rowAt.room
  have hcm := ho.rowAt.most
  have HOR := Lib.hid ho
  have hct2 := cell_below HB2.out hct
  clear HO ho
  go_wp2_with fail
  (with_reducible refine (HI.out _).mono ?_)
  rintro e w4 ⟨rfl, rfl⟩
  obtain ⟨t, ht⟩ : ∃ t : Int, (p.length : Int) - (q.length : Int) = t := ⟨_, rfl⟩
  have htn : t < 0 := by omega
  have ht2 : -1000 < t := by omega
  go_wp2_with fail
  go_loopw [11] (fun i wr => i = .int .i64 t ∧ wr = w2) (fun _ _ => 0)
  case atStart => exact ⟨rfl, rfl⟩
  case round =>
    obtain ⟨rfl, hw⟩ := hrel
    subst hw
    have hTA := Lib.hid (rtrim_any none [] 0 wr (Row.nil _ _ _ (by omega)) (by decide))
    go_wp2_with fail
    refine hTA.out.mono ?_
    rintro e w5 ⟨⟨a5, c5, rfl, ho5⟩, hb5⟩
    have hTR := Lib.hid (rtrim_any a' p cr w5 (HOR.out.rowAt.below hb5) (by omega))
    have HB5 := Lib.hid (HB2.out.trans (hb5.mono HB2.out.size))
    have HO5 := Lib.hid ho5
    clear hb5 ho5
    go_wp2_with fail
    (with_reducible refine hTR.out.mono ?_)
    rintro e w6 ⟨⟨a6, c6, rfl, ho6⟩, hb6⟩
    have hTP : PM.trimL p = p := PM.trimL_can HP.out.can
    rw [hTP] at ho6 ⊢
    have HR6 := Lib.hid ho6.rowAt
    have HR5 := Lib.hid (HO5.out.rowAt.below hb6)
    have HB6 := Lib.hid (HB5.out.trans (hb6.mono HB5.out.size))
    clear ho6 hb6 hTP
    go_wp2_with fail
    exact bodyPost_ret (v := .tuple #[.slice a5 ([] : List PM.G).length c5, .slice a6 p.length c6, .int .i64 0]) (by simp [results, Try.results28, go_sem, PM.trimL_nil]) rfl ⟨⟨[], p, a5, c5, a6, c6, rfl, HR5.out, HR6.out, ⟨fun j => by rw [show PM.el [] = PM.zeroC from rfl, PM.conv_zeroC_l, PM.G.zero_add], by omega, HP.out.can, PM.can_nil, by show 0 = _; omega⟩⟩, HB6.out⟩
/-- **ref04.Divide** of two polynomials. -/
theorem rdiv_yes (a b : Option Addr) (ca cb : Nat) (p q : List PM.G) (w : World) (ha : Row w a p ca) (hb : Row w b q cb) (hp : Pol p) (hq : Pol q) (hq0 : 0 < q.length) :
    Calls Try.prog 28 #[.slice a p.length ca, .slice b q.length cb] w fun e W => DRes p q e W ∧ Below w.heap.size w W := by
  by_cases hl : q.length ≤ p.length
  · exact rdiv_long a b ca cb p q w ha hb hp hq hq0 hl
  · exact rdiv_short a b ca cb p q w ha hb hp hq (by omega)
end Go.Proofs.Ytijkgplglfmfnaa.P

namespace Go.Proofs.Ytijkgplglfmfnaa.P
open Go Go.RowKit Go.Shelf
open G.S (codeV Cd code_box box4_at)
open G (Box ret_int)

theorem rvalid07_any {D C F : Nat} (hc : Cd D C F) (t : Bool) (ht : decide (F ≤ C / 2) = t) (w : World) : Calls Try.prog 33 #[codeV D C F] w fun e w' => e = .returned (.bool t) ∧ Below w.heap.size w w' := by
  unfold codeV
  obtain ⟨h1, h2, h3, h4, h5⟩ := hc
  obtain ⟨w1, hw1, c0, c1, c2, c3, hB, _⟩ := code_box w D C F 28
  have HB := Lib.hid hB
  have a1 : (1 : Int) ≤ (D : Int) := by omega
  have a2 : (D : Int) ≤ 32 := by omega
  have a3 : (1 : Int) ≤ (C : Int) := by omega
  have a4 : (C : Int) ≤ 8 := by omega
  have a5 : (0 : Int) ≤ (F : Int) := by omega
  clear hB
  cases t with
  | true =>
    have a6 : (F : Int) ≤ (C : Int) / 2 := by have := of_decide_eq_true ht; omega
    clear ht
    go_enter Try.func33, Try.ntmps33
    go_wp2_with fail
    exact bodyPost_ret (v := .bool true) (by simp [results, Try.results33, go_sem]) rfl ⟨rfl, HB.out⟩
  | false =>
    have a6 : ¬ (F : Int) ≤ (C : Int) / 2 := by have := of_decide_eq_false ht; omega
    clear ht
    go_enter Try.func33, Try.ntmps33
    go_wp2_with fail
    exact bodyPost_ret (v := .bool false) (by simp [results, Try.results33, go_sem]) rfl ⟨rfl, HB.out⟩
theorem rsymbols_any {D C F : Nat} (hc : Cd D C F) (t : Bool) (ht : decide (F ≤ C / 2) = t) (w : World) : Calls Try.prog 25 #[codeV D C F] w fun e w' => e = .returned (.bool t) ∧ Below w.heap.size w w' := by
  have hv := fun W => rvalid07_any hc t ht W
  unfold codeV at *
  obtain ⟨w1, hw1, c0, c1, c2, c3, hB, _⟩ := code_box w D C F 28
  have HB := Lib.hid hB
  have HV := Lib.hid hv
  clear hB ht hv
  go_enter Try.func25, Try.ntmps25
  go_wp2_with fail
  (with_reducible refine (HV.out _).mono ?_)
  rintro e w2 ⟨rfl, hb2⟩
  go_wp2_with fail
  go_ret
  exact ⟨rfl, HB.out.trans (hb2.mono HB.out.size)⟩
theorem rgexp (k : Nat) (W : World) : Calls Try.prog 27 #[.int .i64 (k : Int)] W fun e w' => e = .returned (.int .u8 ((EE k).v : Int)) ∧ W = w' := by
  have := RF.rexp_any (k : Int) W
  rwa [cyc_nat] at this

set_option maxRecDepth 100000 in
set_option maxHeartbeats 1000000 in
/-- **ref07.Encode** -/
theorem rencode_inv {D C F : Nat} (hc : Cd D C F) (hF : ¬ F ≤ C / 2) (a : Option Addr) (n cap : Nat) (w : World) :
    Calls Try.prog 14 #[codeV D C F, .slice a n cap] w (No w 1) := by
  have HIS := Lib.hid (fun W => rsymbols_any hc false (decide_eq_false hF) W)
  unfold codeV at *
  obtain ⟨w1, hw1, c0, c1, c2, c3, hB, _⟩ := code_box w D C F 28
  have HB := Lib.hid hB
  clear hB hc hF
  go_enter Try.func14, Try.ntmps14
  go_wp2_with fail
  (with_reducible refine (HIS.out _).mono ?_)
  rintro e w2 ⟨rfl, hb2⟩
  have HB2 := Lib.hid (HB.out.trans (hb2.mono HB.out.size))
  clear hb2
  go_wp2_with fail
  exact bodyPost_ret (v := .tuple #[.slice none 0 0, .int .i64 1]) (by simp [results, Try.results14, go_sem]) rfl ⟨rfl, HB2.out⟩
/-- The polynomial of the data, written from its end. -/
def pdF (D n : Nat) (data : List PM.G) (i : Nat) : Nat → PM.G := fun j => if n ≤ j + i then PM.el data (n - 1 - j) else 0
theorem pdF_step (D n : Nat) (data : List PM.G) (i : Nat) (hi : i < n) : (tab n (pdF D n data i)).set (n - 1 - i) (PM.el data i) = tab n (pdF D n data (i + 1)) := by
  rw [tab_set _ _ _ _ (by omega)]
  refine tab_ext (fun j hj => ?_)
  unfold upd pdF
  by_cases e : j = n - 1 - i
  · rw [if_pos e, if_pos (by omega)]; congr 1; omega
  · rw [if_neg e]
    by_cases h : n ≤ j + i
    · rw [if_pos h, if_pos (by omega)]
    · rw [if_neg h, if_neg (show ¬ n ≤ j + (i + 1) by omega)]
theorem pdF_0 (D n : Nat) (data : List PM.G) : List.replicate n (0 : PM.G) = tab n (pdF D n data 0) := by
  rw [tab_replicate]
  exact tab_ext (fun j hj => by unfold pdF; rw [if_neg (show ¬ n ≤ j + 0 by omega)])
theorem pdF_end {D C : Nat} (data r : List PM.G) (k : Nat) : PM.el (PM.trimL (tab (D + C) (pdF D (D + C) data D))) k = PM.el (pol (tab (D + C) (wdF D C data r 0))) k := by
  rw [PM.el_trimL, pol_el, tab_len]
  by_cases h : k < D + C
  · rw [if_pos h, el_tab _ _ _ h, el_tab _ _ _ (by omega)]
    unfold pdF wdF
    rw [if_neg (show ¬ D + C ≤ D + C - 1 - k + 0 by omega)]
    by_cases h2 : D + C ≤ k + D
    · rw [if_pos h2, if_pos (by omega)]
    · rw [if_neg h2, if_neg (show ¬ D + C - 1 - k < D by omega)]
  · rw [if_neg h, PM.el_ge (by rw [tab_len]; omega)]
attribute [irreducible] pdF
/-- The word while the rest is written behind the data. -/
def owF (D C : Nat) (data r : List PM.G) (i : Nat) : List PM.G := data ++ (List.range i).map (fun j => PM.el r (C - 1 - j))
theorem owF_0 (D C : Nat) (data r : List PM.G) : owF D C data r 0 = data := by unfold owF; simp
theorem owF_len (D C : Nat) (data r : List PM.G) (i : Nat) : (owF D C data r i).length = data.length + i := by unfold owF; simp
theorem owF_step (D C : Nat) (data r : List PM.G) (i : Nat) : owF D C data r i ++ [PM.el r (C - 1 - i)] = owF D C data r (i + 1) := by unfold owF; rw [List.range_succ, List.map_append, List.append_assoc]; rfl
theorem owF_end {D C : Nat} {data r : List PM.G} (hD : data.length = D) (hr : r.length ≤ C) : owF D C data r C = tab (D + C) (wdF D C data r r.length) := by
  refine PM.ext_el (by rw [owF_len, tab_len, hD]) (fun k hk => ?_)
  rw [owF_len, hD] at hk
  rw [el_tab _ _ _ hk]
  unfold owF wdF
  rw [PM.el_append, hD]
  by_cases h : k < D
  · rw [if_pos h, if_neg (show ¬ D + C ≤ k + r.length by omega), if_pos h]
  · rw [if_neg h, PM.el_lt (by simp; omega), List.getElem_map, List.getElem_range, if_neg h]
    by_cases h2 : D + C ≤ k + r.length
    · rw [if_pos h2]; congr 1; omega
    · rw [if_neg h2, PM.el_ge (by omega)]
attribute [irreducible] owF
end Go.Proofs.Ytijkgplglfmfnaa.P

namespace Go.Proofs.Ytijkgplglfmfnaa.P
open Go Go.RowKit Go.Shelf
open G.S (codeV Cd code_box box4_at)
open G (Box ret_int)

theorem tab_snoc (m : Nat) (f : Nat → PM.G) : tab m f ++ [f m] = tab (m + 1) f := by simp [tab, List.range_succ]

set_option maxRecDepth 100000 in
set_option maxHeartbeats 4000000 in
theorem rencode_yes {D C F : Nat} (hc : Cd D C F) (hF : F ≤ C / 2) (a : Option Addr) (data : List PM.G) (cap : Nat) (w : World) (hR : Row w a data cap) (hn : data.length = D) :
    Calls Try.prog 14 #[codeV D C F, .slice a D cap] w (EncR w D C data) := by
  have hroom := hR.room
  have hmost := hR.most
  rw [hn] at hroom
  have HIS := Lib.hid (fun W => rsymbols_any hc true (decide_eq_true hF) W)
  have HN := Lib.hid hn
  have hD1 := hc.d1
  have hD2 := hc.d2
  have hC1 := hc.c1
  have hC2 := hc.c2
  have hne : ((D : Int) != (D : Int)) = false := by simp
  unfold EncR
  obtain ⟨n, hm⟩ : ∃ n, D + C = n := ⟨_, rfl⟩
  have en : (D : Int) + (C : Int) = (n : Int) := by omega
  rw [hm]
  have HM := Lib.hid hm
  have hn40 : n ≤ 40 := by omega
  have hDn : D ≤ n := by omega
  unfold codeV at *
  obtain ⟨w1, hw1, c0, c1, c2, c3, hB, hX⟩ := code_box w D C F 28
  have HB := Lib.hid hB
  have HX := Lib.hid hX
  have HR := Lib.hid hR
  clear hB hc hF hm hn hR hX
  go_enter Try.func14, Try.ntmps14
  go_wp2_with fail
  (with_reducible refine (HIS.out _).mono ?_)
  rintro e w2 ⟨rfl, hb2⟩
  have hone := row_one w2 PM.G.one 5
  rw [one_int] at hone
  have hb3 : Below w2.heap.size w2 (w2.alloc (.cells #[.int .u8 1] 5)) := (Below.refl _ w2).alloc (Nat.le_refl _) _
  obtain ⟨w3, hw3⟩ : ∃ w3, w2.alloc (.cells #[.int .u8 1] 5) = w3 := ⟨_, rfl⟩
  rw [hw3] at hone hb3
  have hb23 := hb2.trans (hb3.mono hb2.size)
  have HX3 := Lib.hid (HX.out.below hb23)
  have HB3 := Lib.hid (HB.out.trans (hb23.mono HB.out.size))
  have HON := Lib.hid hone
  replace c0 := G.cell_below hb2 c0
  replace c1 := G.cell_below hb2 c1
  replace c2 := G.cell_below hb2 c2
  replace c3 := G.cell_below hb2 c3
  clear hb2 hb3 hb23 hone HX HB hw1
  go_wp2_with fail
  go_loopw [6, 7] (fun s k wr => ∃ (i : Nat) (p : List PM.G) (a' : Option Addr) (c' : Nat), k = .int .i64 (i : Int) ∧ i ≤ C ∧ s = .slice a' p.length c' ∧ Row wr a' p c' ∧ RootsP (tab i EE) p ∧ Below w3.heap.size w3 wr) (fun _ k _ => C - (intOf k).toNat)
  case atStart => exact ⟨0, [PM.G.one], some ⟨w2.heap.size, 0, none⟩, 1, rfl, by omega, rfl, HON.out, RootsP.nil, Below.refl _ _⟩
  case round =>
    clear HON c0 c1 c2 c3
    obtain ⟨i, p, a', c', rfl, hi, rfl, hr, hp, hb⟩ := hrel
    have HRP := Lib.hid hr
    have HP := Lib.hid hp
    have HBR := Lib.hid hb
    obtain ⟨c0, c1, c2, c3⟩ := box4_at (HX3.out.below hb)
    have hpl : p.length ≤ 9 := by have := hp.len; rw [tab_len] at this; omega
    have hpl1 : 1 ≤ p.length := by have := hp.len; omega
    clear hr hp hb
    by_cases hlt : i < C
    · have HE := Lib.hid (rgexp i wr)
      obtain ⟨x, hx⟩ : ∃ x, EE i = x := ⟨_, rfl⟩
      rw [hx] at HE
      have HXX := Lib.hid hx
      have ht := row_two wr x PM.G.one 5
      rw [one_int] at ht
      have hb2 : Below wr.heap.size wr (wr.alloc (.cells #[.int .u8 (x.v : Int), .int .u8 1] 5)) := (Below.refl _ wr).alloc (Nat.le_refl _) _
      obtain ⟨w5, hw5⟩ : ∃ w5, wr.alloc (.cells #[.int .u8 (x.v : Int), .int .u8 1] 5) = w5 := ⟨_, rfl⟩
      rw [hw5] at ht hb2
      have hm := rmul_fit a' (some ⟨wr.heap.size, 0, none⟩) c' 2 p [x, PM.G.one] w5 (HRP.out.below hb2) ht HP.out.pol (pol_two x) (by omega) (by simp) (by simp; omega)
      rw [show [x, PM.G.one].length = 2 from rfl] at hm
      have HMU := Lib.hid hm
      have HB5 := Lib.hid (HBR.out.trans (hb2.mono HBR.out.size))
      clear hx ht hb2 hm
      go_wp2_with fail
      (with_reducible refine HE.out.mono ?_)
      rintro e w' ⟨rfl, rfl⟩
      go_wp2_with fail
      (with_reducible refine HMU.out.mono ?_)
      rintro e w6 ⟨⟨q, a3, c3', rfl, hr3, hq, he, _⟩, hb6⟩
      have HR3 := Lib.hid hr3
      have hs := HP.out.step hq he
      rw [← HXX.out, tab_snoc] at hs
      have HS := Lib.hid hs
      have HB6 := Lib.hid (HB5.out.trans (hb6.mono HB5.out.size))
      clear hr3 hq he hb6 hs
      go_wp2_with fail
      go_roundw
      case rel => exact ⟨i + 1, q, a3, c3', by go_num, hlt, rfl, HR3.out, HS.out, HB6.out⟩
      case measure => simp [intOf]; omega
    · obtain rfl : C = i := by omega
      have HBW := Lib.hid (HB3.out.trans (HBR.out.mono HB3.out.size))
      have HXW := Lib.hid (HX3.out.below HBR.out)
      clear HX3 HB3 HBR HIS hw3
      obtain ⟨wO, hwO⟩ : ∃ x, x = wr := ⟨wr, rfl⟩
      subst hwO
      go_wp2_with (at_make; refine wpList_make1 rfl _ _ rfl n rfl rfl (by omega) (by omega) (B := wO.heap.size) (Nat.le_refl _) ?_; intro w7 ho7 hb7)
      obtain ⟨gp, hgp⟩ : ∃ g, wO.heap.size = g := ⟨_, rfl⟩
      rw [hgp, List.length_replicate, pdF_0 D n data] at ho7
      have HO7 := Lib.hid ho7
      have HB7 := Lib.hid hb7
      rw [hgp]
      have HGP := Lib.hid hgp
      clear ho7 hb7 hgp c0 c1 c2 c3
      go_loopw [10] (fun k wr => ∃ i : Nat, k = .int .i64 (i : Int) ∧ i ≤ D ∧ Own wr gp (.slice (some ⟨gp, 0, none⟩) n n) (tab n (pdF D n data i)) ∧ Below wO.heap.size wO wr) (fun k _ => D - (intOf k).toNat)
      case atStart => exact ⟨0, rfl, by omega, HO7.out, HB7.out⟩
      case round => as_aux_lemma =>
        clear HO7 HB7
        obtain ⟨j, rfl, hj, ho, hb⟩ := hrel
        have HO := Lib.hid ho
        have HBZ := Lib.hid hb
        obtain ⟨c0, c1, c2, c3⟩ := box4_at (HXW.out.below hb)
        have hbw := HBW.out.trans (hb.mono HBW.out.size)
        have HBWZ := Lib.hid hbw
        clear ho hb
        by_cases hlt : j < D
        · obtain ⟨b, off, eb, hc⟩ := (HR.out.below hbw).el j (by rw [HN.out]; exact hlt)
          subst eb
          obtain ⟨x, hx⟩ : ∃ x, PM.el data j = x := ⟨_, rfl⟩
          rw [hx] at hc
          obtain ⟨d, hd⟩ : ∃ d, n - 1 - j = d := ⟨_, rfl⟩
          have hdn : d < n := by omega
          have hix : (n : Int) - 1 - (j : Int) = (d : Int) := by omega
          have ha := (HO.out.at d (by rw [tab_len]; exact hdn)).2.2.2.2
          obtain ⟨ha1, ha2⟩ := ha
          have hst2 : Own (wr.setCell ⟨gp, d, none⟩ (.int .u8 (x.v : Int))) gp (.slice (some ⟨gp, 0, none⟩) n n) ((tab n (pdF D n data j)).set d x) := by
            have := Own.set (zs := tab n (pdF D n data j)) (cap := n) (g := gp) (by rw [tab_len]; exact HO.out) d x
            rwa [tab_len] at this
          have hstep := pdF_step D n data j (by omega)
          rw [hd, hx] at hstep
          rw [hstep] at hst2
          have HST := Lib.hid hst2
          have HBT := Lib.hid (HBZ.out.setCell (p := ⟨gp, d, none⟩) (by rw [HGP.out]; exact Nat.le_refl gp) (.int .u8 (x.v : Int)))
          clear hst2 hstep HO HBZ hx hd hbw HBWZ
          go_wp2_with fail
          go_roundw
          case rel => exact ⟨j + 1, by go_num, hlt, HST.out, HBT.out⟩
          case measure => simp [intOf]; omega
        · obtain rfl : D = j := by omega
          have htr := rtrim_any (some ⟨gp, 0, none⟩) (tab n (pdF D n data D)) n wr (HO.out.rowAtN (tab_len _ _)) (by rw [tab_len]; omega)
          rw [tab_len] at htr
          have HTR := Lib.hid htr
          obtain ⟨P, hP⟩ : ∃ P, PM.trimL (tab n (pdF D n data D)) = P := ⟨_, rfl⟩
          rw [hP] at HTR
          have HPP := Lib.hid (show Pol P from ⟨by rw [← hP]; exact PM.can_trimL _, by rw [← hP]; have := PM.trimL_len (tab n (pdF D n data D)); rw [tab_len] at this; omega⟩)
          have HPE := Lib.hid (show ∀ k, PM.el P k = PM.el (pol (tab (D + C) (wdF D C data [] 0))) k from fun k => by rw [← hP, ← HM.out]; exact pdF_end data [] k)
          have HRG := Lib.hid (HRP.out.below HBZ.out)
          clear htr hP hbw HO
          go_wp2_with fail
          (with_reducible refine HTR.out.mono ?_)
          rintro e w8 ⟨⟨a8, k8, rfl, ho8⟩, hb8⟩
          have HDV := Lib.hid (rdiv_yes a8 a' k8 c' P p w8 ho8.rowAt (HRG.out.below hb8) HPP.out HP.out.pol (by omega))
          have HB8 := Lib.hid (HBWZ.out.trans (hb8.mono HBWZ.out.size))
          have HBB := Lib.hid hb8
          clear ho8 hb8 HTR
          go_wp2_with fail
          (with_reducible refine HDV.out.mono ?_)
          rintro e w9 ⟨⟨A, r, a9, k9, a10, k10, rfl, _, hr10, heq⟩, hb9⟩
          have HB9 := Lib.hid (HB8.out.trans (hb9.mono HB8.out.size))
          have HR10 := Lib.hid hr10
          have HB99 := Lib.hid hb9
          have hless := heq.less
          have hpl2 := HP.out.len
          rw [tab_len] at hpl2
          have hrC : r.length ≤ C := by omega
          have HEND := Lib.hid (show IsEnc D C data (owF D C data r C) by
            rw [owF_end HN.out hrC]
            exact wdF_end HP.out heq.less (fun k => by rw [← HPE.out]; exact heq.eq k))
          have HXZ := Lib.hid (HXW.out.below HBZ.out)
          clear hless hpl2 heq hb9 hr10 HDV HRG HPP HPE HB8
          have hb89 : Below wr.heap.size wr w9 := HBB.out.trans (HB99.out.mono HBB.out.size)
          have HX9 := Lib.hid (HXZ.out.below hb89)
          have HRD := Lib.hid (HR.out.below HB9.out)
          obtain ⟨x0, x1, x2, x3⟩ := box4_at HX9.out
          have hrr := HR10.out.room
          have hrm := HR10.out.most
          clear hb89 HXZ HBB HB99 c0 c1 c2 c3
          go_wp2_with (at_builtin; refine wpList_appAny (zs := []) (ys := data) (B := w9.heap.size) (cap := cap) (ad := a) rfl _ _ rfl rfl (Own.nil _ _) (by rw [HN.out]; rfl) HRD.out (by rw [HN.out]; simp; omega) (Nat.le_refl _) ?_; intro a11 c11 w11 ho11 hb11; rw [show ([] : List PM.G).length + data.length = D by rw [HN.out]; simp]; have HO11 := Lib.hid ho11; have HB11 := Lib.hid hb11; have y := box4_at (HX9.out.below hb11); have y0 := y.1; have y1 := y.2.1; have y2 := y.2.2.1; have y3 := y.2.2.2; clear y ho11 hb11)
          have ho11' : Own w11 w9.heap.size (.slice a11 (owF D C data r 0).length c11) (owF D C data r 0) := by
            have := HO11.out
            rw [show ([] ++ data : List PM.G) = data from rfl] at this
            rw [owF_0]
            exact this
          have HO12 := Lib.hid ho11'
          clear ho11' HO11
          go_loopw [14, 15] (fun s k wr => ∃ (i : Nat) (a' : Option Addr) (c' : Nat), k = .int .i64 ((D : Int) + (i : Int)) ∧ i ≤ C ∧ s = .slice a' (D + i) c' ∧ Own wr w9.heap.size (.slice a' (owF D C data r i).length c') (owF D C data r i) ∧ Below w9.heap.size w9 wr) (fun _ k _ => n - (intOf k).toNat)
          case atStart => exact ⟨0, a11, c11, by simp, by omega, rfl, HO12.out, HB11.out⟩
          case round => as_aux_lemma =>
            clear HO12 HB11 y0 y1 y2 y3 x0 x1 x2 x3
            obtain ⟨i, a', c', rfl, hi, rfl, ho, hb⟩ := hrel
            have HO := Lib.hid ho
            have HBL := Lib.hid hb
            have HRL := Lib.hid (HR10.out.below hb)
            have hol : (owF D C data r i).length = D + i := by rw [owF_len, HN.out]
            have HOL := Lib.hid hol
            have ho2 := ho
            rw [hol] at ho2
            have HOD := Lib.hid ho2
            clear ho hb hol ho2
            by_cases hlt : i < C
            · obtain ⟨k, hk⟩ : ∃ k, C - 1 - i = k := ⟨_, rfl⟩
              have hnk : (n : Int) - 1 - ((D : Int) + (i : Int)) = (k : Int) := by have := HM.out; omega
              have hin : (D : Int) + (i : Int) < (n : Int) := by have := HM.out; omega
              have hk8 : k ≤ 8 := by omega
              have hst := owF_step D C data r i
              rw [hk] at hst
              have HST := Lib.hid hst
              clear hst
              by_cases hkr : k < r.length
              · obtain ⟨b, off, eb, hc⟩ := HRL.out.el k hkr
                subst eb
                obtain ⟨x, hx⟩ : ∃ x, PM.el r k = x := ⟨_, rfl⟩
                rw [hx] at hc HST
                clear hx
                go_wp2_with (at_builtin; refine wpList_app1 rfl _ _ rfl x rfl (HOD.out.alloc _) rfl (cell_new _ _ _) rfl (by rw [HOL.out]; omega) (by have := HBL.out.size; simp; omega) ?_; intro a12 c12 w12 ho12 hg12 hb12; rw [HOL.out])
                go_roundw
                case rel =>
                  have hb2 := HBL.out.trans (((Below.refl w9.heap.size wr).alloc HBL.out.size _).trans hb12)
                  rw [HST.out] at ho12
                  exact ⟨i + 1, a12, c12, by go_num, hlt, rfl, ho12, hb2⟩
                case measure => simp [intOf]; omega
              · have hz : PM.el r k = 0 := PM.el_ge (by omega)
                rw [hz] at HST
                clear hz
                go_wp2_with (at_builtin; refine wpList_app1 rfl _ _ rfl (0 : PM.G) rfl (HOD.out.alloc _) rfl (cell_new _ _ _) rfl (by rw [HOL.out]; omega) (by have := HBL.out.size; simp; omega) ?_; intro a12 c12 w12 ho12 hg12 hb12; rw [HOL.out])
                go_roundw
                case rel =>
                  have hb2 := HBL.out.trans (((Below.refl w9.heap.size wr).alloc HBL.out.size _).trans hb12)
                  rw [HST.out] at ho12
                  exact ⟨i + 1, a12, c12, by go_num, hlt, rfl, ho12, hb2⟩
                case measure => simp [intOf]; omega
            · obtain rfl : C = i := by omega
              have hin : ¬ (D : Int) + (C : Int) < (n : Int) := by have := HM.out; omega
              have ho' := HO.out
              rw [HOL.out, HM.out] at ho'
              have HOO := Lib.hid ho'
              clear ho'
              rw [HM.out]
              go_wp2_with fail
              exact bodyPost_ret (v := .tuple #[.slice a' n c', .int .i64 0]) (by simp [results, Try.results14, go_sem]) rfl ⟨_, _, _, rfl, HOO.out.mono HB9.out.size, HEND.out, HB9.out.trans (HBL.out.mono HB9.out.size)⟩
end Go.Proofs.Ytijkgplglfmfnaa.P
