/- ref04.Mul. -/
import Derived.Test.YtfbogjibofeckaaPRefBad
import Derived.Test.YtfbogjibofeckaaRound
namespace Go.Proofs.Ytfbogjibofeckaa.P
open Go Go.RowKit Go.Shelf

theorem rfmul_any (a b : PM.G) (w : World) :
    Calls Try.prog 38 #[.int .u8 (a.v : Int), .int .u8 (b.v : Int)] w fun e w' => e = .returned (.int .u8 ((a * b).v : Int)) ∧ w = w' := rmul_any a.v b.v a.lt b.lt w
/-- The coefficients below k. -/
def low (p : List PM.G) (k : Nat) : PM.Co := fun i => if i < k then PM.el p i else 0
theorem low_zero (p : List PM.G) : low p 0 = PM.zeroC := by funext i; unfold low; rw [if_neg (Nat.not_lt_zero _)]; rfl
theorem low_all (p : List PM.G) : low p p.length = PM.el p := by
  funext i; unfold low
  by_cases h : i < p.length
  · rw [if_pos h]
  · rw [if_neg h, PM.el_ge (by omega)]
theorem low_step (p : List PM.G) (k i : Nat) : low p (k + 1) i = if i = k then PM.el p k else low p k i := by
  unfold low
  by_cases e : i = k
  · subst e; rw [if_pos (Nat.lt_succ_self i), if_pos rfl]
  · rw [if_neg e]
    by_cases h : i < k
    · rw [if_pos h, if_pos (by omega)]
    · rw [if_neg h, if_neg (by omega)]
theorem low_at (p : List PM.G) (k : Nat) : low p k k = 0 := by unfold low; rw [if_neg (Nat.lt_irrefl k)]
/-- What a round has added up to place k of the second factor. -/
def part (c : PM.G) (q : List PM.G) (i k j : Nat) : PM.G := if i ≤ j ∧ j < i + k then c * PM.el q (j - i) else 0
theorem part_zero (c : PM.G) (q : List PM.G) (i j : Nat) : part c q i 0 j = 0 := by unfold part; rw [if_neg (by omega)]
theorem part_all (c : PM.G) (q : List PM.G) (i j : Nat) : part c q i q.length j = if j < i then 0 else c * PM.el q (j - i) := by
  unfold part
  by_cases h : j < i
  · rw [if_neg (by omega), if_pos h]
  · rw [if_neg h]
    by_cases h2 : j < i + q.length
    · rw [if_pos ⟨by omega, h2⟩]
    · rw [if_neg (by omega), PM.el_ge (by omega), PM.G.mul_zero]
theorem part_step (c : PM.G) (q : List PM.G) (i k j : Nat) : part c q i (k + 1) j = if j = i + k then c * PM.el q k else part c q i k j := by
  unfold part
  by_cases e : j = i + k
  · subst e; rw [if_pos (by omega), if_pos rfl, Nat.add_sub_cancel_left]
  · rw [if_neg e]
    by_cases h : i ≤ j ∧ j < i + k
    · rw [if_pos h, if_pos (by omega)]
    · rw [if_neg h, if_neg (by omega)]
theorem part_at (c : PM.G) (q : List PM.G) (i k : Nat) : part c q i k (i + k) = 0 := by unfold part; rw [if_neg (by omega)]

def RMulOut (w : World) (g n : Nat) (p q : List PM.G) (i : Value) (W : World) : Prop :=
  ∃ (k : Nat) (ys : List PM.G), i = .int .i64 (k : Int) ∧ k ≤ p.length ∧ ys.length = n ∧ (∀ j, PM.el ys j = PM.conv (low p k) (PM.el q) j) ∧ Own W g (.slice (some ⟨g, 0, none⟩) n n) ys ∧ Below g w W
def RMulIn (w : World) (g n : Nat) (p q : List PM.G) (k : Nat) (i : Value) (W : World) : Prop :=
  ∃ (m : Nat) (ys : List PM.G), i = .int .i64 (m : Int) ∧ m ≤ q.length ∧ ys.length = n ∧ (∀ j, PM.el ys j = PM.conv (low p k) (PM.el q) j + part (PM.el p k) q k m j) ∧ Own W g (.slice (some ⟨g, 0, none⟩) n n) ys ∧ Below g w W
theorem rmul_step {w wr W' : World} {g n k m d : Nat} {p q ys : List PM.G} (hd : k + m = d) (hm : m < q.length) (hfit : k + q.length ≤ n) (hl : ys.length = n) (he : ∀ j, PM.el ys j = PM.conv (low p k) (PM.el q) j + part (PM.el p k) q k m j)
    (ho : Own wr g (.slice (some ⟨g, 0, none⟩) n n) ys) (hB : Below g w wr) (hW : W' = (wr.drewN 1).setCell ⟨g, d, none⟩ (.int .u8 (bits BinOp.xor IntKind.u8 ((PM.el ys d).v : Int) ((PM.el p k * PM.el q m).v : Int)))) :
    RMulIn w g n p q k (.int .i64 ((m : Int) + 1)) W' := by
  subst hW hd
  rw [xor_G]
  refine ⟨m + 1, ys.set (k + m) (PM.el ys (k + m) + PM.el p k * PM.el q m), by go_num, hm, by rw [List.length_set]; exact hl, fun j => ?_, ?_, (belowN hB 1).setCell (p := ⟨g, k + m, none⟩) (Nat.le_refl _) _⟩
  · rw [PM.el_set (by omega), part_step]
    by_cases e : j = k + m
    · subst e; rw [if_pos rfl, if_pos rfl, he, part_at, PM.G.add_zero]
    · rw [if_neg e, if_neg e, he]
  · subst hl
    exact (ho.drewN 1).set (k + m) (PM.el ys (k + m) + PM.el p k * PM.el q m)
theorem rmul_next {w wr : World} {g n k : Nat} {p q ys : List PM.G} (hk : k < p.length) (hl : ys.length = n) (he : ∀ j, PM.el ys j = PM.conv (low p k) (PM.el q) j + part (PM.el p k) q k q.length j)
    (ho : Own wr g (.slice (some ⟨g, 0, none⟩) n n) ys) (hB : Below g w wr) : RMulOut w g n p q (.int .i64 ((k : Int) + 1)) wr :=
  ⟨k + 1, ys, by go_num, hk, hl, fun j => by rw [he, part_all, PM.conv_put (low p k) (low p (k + 1)) (PM.el q) (PM.el p k) k (low_at p k) (fun i => low_step p k i)], ho, hB⟩

set_option maxRecDepth 100000 in
set_option maxHeartbeats 1000000 in
theorem rmul_fit (a b : Option Addr) (ca cb : Nat) (p q : List PM.G) (w : World) (ha : Row w a p ca) (hb : Row w b q cb) (hp : Pol p) (hq : Pol q) (hp0 : 0 < p.length) (hq0 : 0 < q.length) (hl : p.length + q.length ≤ 256) :
    Calls Try.prog 15 #[.slice a p.length ca, .slice b q.length cb] w fun e W => (∃ r a' cap, e = .returned (.tuple #[.slice a' (List.length r) cap, .int .i64 0]) ∧ Row W a' r cap ∧ Pol r ∧ (∀ k, PM.el r k = PM.conv (PM.el p) (PM.el q) k) ∧ ∀ b o, a' = some ⟨b, o, none⟩ → w.heap.size ≤ b) ∧ Below w.heap.size w W := by
  have hra := ha.room
  have hma := ha.most
  have hrb := hb.room
  have hmb := hb.most
  have HA := Lib.hid ha
  have HB := Lib.hid hb
  have HP := Lib.hid hp
  have HQ := Lib.hid hq
  clear ha hb hp hq
  have hz1 : ((p.length : Int) == 0) = false := beq_false_of_ne (by omega)
  have hz2 : ((q.length : Int) == 0) = false := beq_false_of_ne (by omega)
  obtain ⟨n, hn⟩ : ∃ n, p.length + q.length - 1 = n := ⟨_, rfl⟩
  go_enter Try.func15, Try.ntmps15
  go_wp2_with fail
  (with_reducible refine (rvalid_yes a p ca w HA.out HP.out).mono ?_)
  rintro e w1 ⟨rfl, rfl⟩
  go_wp2_with fail
  (with_reducible refine (rvalid_yes b q cb w HB.out HQ.out).mono ?_)
  rintro e w1 ⟨rfl, rfl⟩
  go_wp2_with (at_make; refine wpList_make1 rfl _ _ rfl n rfl rfl (by omega) (by omega) (B := w.heap.size) (Nat.le_refl _) ?_; intro w2 hown2 hb2; rw [List.length_replicate] at hown2; have HO2 := Lib.hid hown2; have HB2 := Lib.hid hb2; clear hown2 hb2)
  obtain ⟨g, hg⟩ : ∃ g, w.heap.size = g := ⟨_, rfl⟩
  rw [hg] at HO2 HB2 ⊢
  go_loopw [7] (fun i wr => RMulOut w g n p q i wr) (fun i _ => p.length - (intOf i).toNat)
  case atStart => exact ⟨0, _, rfl, Nat.zero_le _, List.length_replicate, fun j => by rw [PM.el_replicate, low_zero, PM.conv_zeroC_l], HO2.out, HB2.out⟩
  case round =>
    clear HO2 HB2
    obtain ⟨k, ys, rfl, hk, hlen, hel, hown, hB⟩ := hrel
    by_cases hlt : k < p.length
    · have hi0 : RMulIn w g n p q k (.int .i64 0) wr := ⟨0, ys, rfl, Nat.zero_le _, hlen, fun j => by rw [part_zero, PM.G.add_zero]; exact hel j, hown, hB⟩
      have HI0 := Lib.hid hi0
      clear hi0 hlen hel hown hB
      go_wp2_with fail
      go_loopw [8] (fun i wr => RMulIn w g n p q k i wr) (fun i _ => q.length - (intOf i).toNat)
      case atStart => exact HI0.out
      case round =>
        clear HI0
        obtain ⟨m, ys, rfl, hm, hlen, hel, hown, hB⟩ := hrel
        have HLN := Lib.hid hlen
        have HEL := Lib.hid hel
        have HOY := Lib.hid hown
        have HBW := Lib.hid hB
        have hAW := HA.out.below (by rw [hg]; exact hB)
        have hBW := HB.out.below (by rw [hg]; exact hB)
        clear hlen hel hown hB
        by_cases hmt : m < q.length
        · obtain ⟨d, hd⟩ : ∃ d, k + m = d := ⟨_, rfl⟩
          have hidx : (k : Int) + (m : Int) = (d : Int) := by omega
          have hdn : d < n := by omega
          have hwd : IntKind.i64.wrap (d : Int) = (d : Int) := by rw [IntKind.wrap_i64]; omega
          obtain ⟨_, _, _, _, hcz, hfz⟩ := HOY.out.at d (by rw [HLN.out]; omega)
          obtain ⟨b1, o1, rfl, hc1⟩ := hAW.el k hlt
          obtain ⟨b2, o2, rfl, hc2⟩ := hBW.el m hmt
          have HDK := Lib.hid hd
          clear hAW hBW hd
          have hb1 := HA.out.lt hp0
          have hb2 := HB.out.lt hq0
          go_wp2_with fail
          have hmx : Try.prog.follows .mixedOrders = true := by kernel_rfl
          refine wp_region_held (S := fun W' => W'.cell? ⟨b1, o1 + k, none⟩ = some (.int .u8 ((PM.el p k).v : Int)) ∧ W'.cell? ⟨b2, o2 + m, none⟩ = some (.int .u8 ((PM.el q m).v : Int))) hmx ?_
          have hHeld := (show (fun W' : World => W'.cell? ⟨b1, o1 + k, none⟩ = some (.int .u8 ((PM.el p k).v : Int)) ∧ W'.cell? ⟨b2, o2 + m, none⟩ = some (.int .u8 ((PM.el q m).v : Int))) wr.drew from ⟨hc1, hc2⟩)
          refine wpAnyH_at 0 (some 51) (v := ?_) rfl rfl (by kernel_rfl) (by kernel_rfl) (by kernel_rfl) (fun _ _ _ h => h) (Or.inl ⟨by rfl, ?_⟩) hHeld ?_
          rotate_left
          · (intro W2 hSw; obtain ⟨j2, j3⟩ := hSw; go_simp; try with_reducible rfl)
          simp only [Act.put, List.setIfInBounds_toArray, List.set_cons_zero, List.set_cons_succ]
          refine wpAnyH_at 1 (some 52) (v := ?_) rfl rfl (by kernel_rfl) (by kernel_rfl) (by kernel_rfl) (fun _ _ _ h => h) (Or.inl ⟨by rfl, ?_⟩) hHeld ?_
          rotate_left
          · (intro W2 hSw; obtain ⟨j2, j3⟩ := hSw; go_simp; try with_reducible rfl)
          simp only [Act.put, List.setIfInBounds_toArray, List.set_cons_zero, List.set_cons_succ]
          refine wpAnyH_at 2 (some 53) (v := ?_) rfl rfl (by kernel_rfl) (by kernel_rfl) (by kernel_rfl) (fun _ _ _ h => h) (Or.inl ⟨by rfl, ?_⟩) hHeld ?_
          rotate_left
          · (intro W2 hSw; obtain ⟨j2, j3⟩ := hSw; go_simp; try with_reducible rfl)
          simp only [Act.put, List.setIfInBounds_toArray, List.set_cons_zero, List.set_cons_succ]
          refine wpAnyH_at 3 (some 54) (v := ?_) rfl rfl (by kernel_rfl) (by kernel_rfl) (by kernel_rfl) (fun _ _ _ h => h) (Or.inl ⟨by rfl, ?_⟩) hHeld ?_
          rotate_left
          · (intro W2 hSw; obtain ⟨j2, j3⟩ := hSw; go_simp; try with_reducible rfl)
          simp only [Act.put, List.setIfInBounds_toArray, List.set_cons_zero, List.set_cons_succ]
          refine wpAnyH_at 4 (some 55) (v := ?_) rfl rfl (by kernel_rfl) (by kernel_rfl) (by kernel_rfl) (fun _ _ _ h => h) (Or.inl ⟨by rfl, ?_⟩) hHeld ?_
          rotate_left
          · (intro W2 hSw; obtain ⟨j2, j3⟩ := hSw; go_simp; try with_reducible rfl)
          simp only [Act.put, List.setIfInBounds_toArray, List.set_cons_zero, List.set_cons_succ]
          refine wpAnyH_at 6 (some 57) (v := ?_) rfl rfl (by kernel_rfl) (by kernel_rfl) (by kernel_rfl) (fun _ _ _ h => h) (Or.inl ⟨by rfl, ?_⟩) hHeld ?_
          rotate_left
          · (intro W2 hSw; obtain ⟨j2, j3⟩ := hSw; go_simp; try with_reducible rfl)
          simp only [Act.put, List.setIfInBounds_toArray, List.set_cons_zero, List.set_cons_succ]
          refine wpAnyH_at 7 (some 58) (v := ?_) rfl rfl (by kernel_rfl) (by kernel_rfl) (by kernel_rfl) (fun _ _ _ h => h) (Or.inl ⟨by rfl, ?_⟩) hHeld ?_
          rotate_left
          · (intro W2 hSw; obtain ⟨j2, j3⟩ := hSw; go_simp; try with_reducible rfl)
          simp only [Act.put, List.setIfInBounds_toArray, List.set_cons_zero, List.set_cons_succ]
          refine wpAnyH_at 8 (some 59) (v := ?_) rfl rfl (by kernel_rfl) (by kernel_rfl) (by kernel_rfl) (fun _ _ _ h => h) (Or.inl ⟨by rfl, ?_⟩) hHeld ?_
          rotate_left
          · (intro W2 hSw; obtain ⟨j2, j3⟩ := hSw; go_simp; try with_reducible rfl)
          simp only [Act.put, List.setIfInBounds_toArray, List.set_cons_zero, List.set_cons_succ]
          refine wpAnyH_at 9 (some 60) (v := ?_) rfl rfl (by kernel_rfl) (by kernel_rfl) (by kernel_rfl) (fun _ _ _ h => h) (Or.inl ⟨by rfl, ?_⟩) hHeld ?_
          rotate_left
          · (intro W2 hSw; obtain ⟨j2, j3⟩ := hSw; go_simp; try with_reducible rfl)
          simp only [Act.put, List.setIfInBounds_toArray, List.set_cons_zero, List.set_cons_succ]
          refine wpAnyH_at 10 (some 61) (v := ?_) rfl rfl (by kernel_rfl) (by kernel_rfl) (by kernel_rfl) (fun _ _ _ h => h) (Or.inl ⟨by rfl, ?_⟩) hHeld ?_
          rotate_left
          · (intro W2 hSw; obtain ⟨j2, j3⟩ := hSw; go_simp; try with_reducible rfl)
          simp only [Act.put, List.setIfInBounds_toArray, List.set_cons_zero, List.set_cons_succ]
          refine wpAnyH_at 11 (some 62) (v := ?_) rfl rfl (by kernel_rfl) (by kernel_rfl) (by kernel_rfl) (fun _ _ _ h => h) (Or.inl ⟨by rfl, ?_⟩) hHeld ?_
          rotate_left
          · (intro W2 hSw; obtain ⟨j2, j3⟩ := hSw; go_simp; try with_reducible rfl)
          simp only [Act.put, List.setIfInBounds_toArray, List.set_cons_zero, List.set_cons_succ]
          refine wpAnyH_at 12 (some 63) (v := ?_) rfl rfl (by kernel_rfl) (by kernel_rfl) (by kernel_rfl) (fun _ _ _ h => h) (Or.inl ⟨by rfl, ?_⟩) hHeld ?_
          rotate_left
          · (intro W2 hSw; obtain ⟨j2, j3⟩ := hSw; go_simp; try with_reducible rfl)
          simp only [Act.put, List.setIfInBounds_toArray, List.set_cons_zero, List.set_cons_succ]
          refine wpAnyH_at 13 (some 64) (v := ?_) rfl rfl (by kernel_rfl) (by kernel_rfl) (by kernel_rfl) (fun _ _ _ h => h) (Or.inl ⟨by rfl, ?_⟩) hHeld ?_
          rotate_left
          · (intro W2 hSw; obtain ⟨j2, j3⟩ := hSw; go_simp; try with_reducible rfl)
          simp only [Act.put, List.setIfInBounds_toArray, List.set_cons_zero, List.set_cons_succ]
          refine wpAnyH_ready (rs := [5, 14]) (by kernel_rfl) (by simp) ?_
          refine AllReadyH.cons rfl (fun K hK => ?_) (AllReadyH.cons rfl (fun K hK => ?_) AllReadyH.nil)
          · go_simp
            refine hK.out _ _ (show (fun W' : World => W'.cell? ⟨b1, o1 + k, none⟩ = some (.int .u8 ((PM.el p k).v : Int)) ∧ W'.cell? ⟨b2, o2 + m, none⟩ = some (.int .u8 ((PM.el q m).v : Int))) wr.drew from ⟨hc1, hc2⟩) (fun hHeld => ?_)
            clear hK K
            refine wpAnyH_ready (rs := [14]) (by kernel_rfl) (by simp) ?_
            refine AllReadyH.cons rfl (fun K hK => ?_) AllReadyH.nil
            go_simp
            (with_reducible refine (rfmul_any _ _ _).mono ?_)
            rintro e w1 ⟨rfl, rfl⟩
            refine hK.out _ _ (show (fun W' : World => W'.cell? ⟨b1, o1 + k, none⟩ = some (.int .u8 ((PM.el p k).v : Int)) ∧ W'.cell? ⟨b2, o2 + m, none⟩ = some (.int .u8 ((PM.el q m).v : Int))) wr.drew from ⟨hc1, hc2⟩) (fun hHeld => ?_)
            clear hK K
            refine wpAnyH_at 15 (some 66) (v := ?_) rfl rfl (by kernel_rfl) (by kernel_rfl) (by kernel_rfl) (fun _ _ _ h => h) (Or.inl ⟨by rfl, ?_⟩) hHeld ?_
            rotate_left
            · (intro W2 hSw; obtain ⟨j2, j3⟩ := hSw; go_simp; try with_reducible rfl)
            simp only [Act.put, List.setIfInBounds_toArray, List.set_cons_zero, List.set_cons_succ]
            refine wpAnyH_at 16 (some 67) (v := ?_) rfl rfl (by kernel_rfl) (by kernel_rfl) (by kernel_rfl) (fun _ _ _ h => h) (Or.inl ⟨by rfl, ?_⟩) hHeld ?_
            rotate_left
            · (intro W2 hSw; obtain ⟨j2, j3⟩ := hSw; go_simp; try with_reducible rfl)
            simp only [Act.put, List.setIfInBounds_toArray, List.set_cons_zero, List.set_cons_succ]
            refine wpAnyH_ready (rs := [17]) (by kernel_rfl) (by simp) ?_
            refine AllReadyH.cons rfl (fun K hK => ?_) AllReadyH.nil
            go_simp
            refine hK.out _ _ ⟨(cell_other _ (show b1 ≠ g by omega)).trans hc1, (cell_other _ (show b2 ≠ g by omega)).trans hc2⟩ (fun _ => wpAnyH_done (by kernel_rfl) ?_ _)
            clear hK K
            go_wp2_with fail
            go_roundw
            case rel => exact rmul_step HDK.out hmt (by omega) HLN.out HEL.out HOY.out HBW.out rfl
            case measure => simp [intOf]; omega
          · go_simp
            (with_reducible refine (rfmul_any _ _ _).mono ?_)
            rintro e w1 ⟨rfl, rfl⟩
            refine hK.out _ _ (show (fun W' : World => W'.cell? ⟨b1, o1 + k, none⟩ = some (.int .u8 ((PM.el p k).v : Int)) ∧ W'.cell? ⟨b2, o2 + m, none⟩ = some (.int .u8 ((PM.el q m).v : Int))) wr.drew from ⟨hc1, hc2⟩) (fun hHeld => ?_)
            clear hK K
            refine wpAnyH_ready (rs := [5]) (by kernel_rfl) (by simp) ?_
            refine AllReadyH.cons rfl (fun K hK => ?_) AllReadyH.nil
            go_simp
            refine hK.out _ _ (show (fun W' : World => W'.cell? ⟨b1, o1 + k, none⟩ = some (.int .u8 ((PM.el p k).v : Int)) ∧ W'.cell? ⟨b2, o2 + m, none⟩ = some (.int .u8 ((PM.el q m).v : Int))) wr.drew from ⟨hc1, hc2⟩) (fun hHeld => ?_)
            clear hK K
            refine wpAnyH_at 15 (some 66) (v := ?_) rfl rfl (by kernel_rfl) (by kernel_rfl) (by kernel_rfl) (fun _ _ _ h => h) (Or.inl ⟨by rfl, ?_⟩) hHeld ?_
            rotate_left
            · (intro W2 hSw; obtain ⟨j2, j3⟩ := hSw; go_simp; try with_reducible rfl)
            simp only [Act.put, List.setIfInBounds_toArray, List.set_cons_zero, List.set_cons_succ]
            refine wpAnyH_at 16 (some 67) (v := ?_) rfl rfl (by kernel_rfl) (by kernel_rfl) (by kernel_rfl) (fun _ _ _ h => h) (Or.inl ⟨by rfl, ?_⟩) hHeld ?_
            rotate_left
            · (intro W2 hSw; obtain ⟨j2, j3⟩ := hSw; go_simp; try with_reducible rfl)
            simp only [Act.put, List.setIfInBounds_toArray, List.set_cons_zero, List.set_cons_succ]
            refine wpAnyH_ready (rs := [17]) (by kernel_rfl) (by simp) ?_
            refine AllReadyH.cons rfl (fun K hK => ?_) AllReadyH.nil
            go_simp
            refine hK.out _ _ ⟨(cell_other _ (show b1 ≠ g by omega)).trans hc1, (cell_other _ (show b2 ≠ g by omega)).trans hc2⟩ (fun _ => wpAnyH_done (by kernel_rfl) ?_ _)
            clear hK K
            go_wp2_with fail
            go_roundw
            case rel => exact rmul_step HDK.out hmt (by omega) HLN.out HEL.out HOY.out HBW.out rfl
            case measure => simp [intOf]; omega
        · obtain rfl : m = q.length := by omega
          clear hAW hBW
          go_wp2_with fail
          go_roundw
          case rel => exact rmul_next hlt HLN.out HEL.out HOY.out HBW.out
          case measure => simp [intOf]; omega
    · have hcoef : ∀ j, PM.el ys j = PM.conv (PM.el p) (PM.el q) j := fun j => by rw [hel, show k = p.length by omega, low_all]
      have HLN := Lib.hid hlen
      have HO := Lib.hid hown
      have HBW := Lib.hid hB
      have HC := Lib.hid hcoef
      clear hlen hel hown hB hcoef
      go_wp2_with fail
      exact bodyPost_ret (v := .tuple #[.slice (some ⟨g, 0, none⟩) n n, .int .i64 0]) (by simp [results, Try.results15, go_sem]) rfl ⟨⟨ys, some ⟨g, 0, none⟩, n, by rw [HLN.out], (show Own wr g (.slice (some ⟨g, 0, none⟩) ys.length n) ys by rw [HLN.out]; exact HO.out).rowAt, mul_pol HP.out HQ.out hp0 hq0 hl (by rw [HLN.out]; omega) HC.out, HC.out, fun b o e => by cases e; omega⟩, by rw [hg]; exact HBW.out⟩

set_option maxRecDepth 100000 in
set_option maxHeartbeats 1000000 in
theorem rmul_zero (a b : Option Addr) (ca cb : Nat) (p q : List PM.G) (w : World) (ha : Row w a p ca) (hb : Row w b q cb) (hp : Pol p) (hq : Pol q) (h0 : p.length = 0 ∨ q.length = 0) :
    Calls Try.prog 15 #[.slice a p.length ca, .slice b q.length cb] w fun e W => e = .returned (.tuple #[.slice none 0 0, .int .i64 0]) ∧ Below w.heap.size w W := by
  have HA := Lib.hid ha
  have HB := Lib.hid hb
  have HP := Lib.hid hp
  have HQ := Lib.hid hq
  clear ha hb hp hq
  by_cases hp0 : p.length = 0
  · have hz1 : ((p.length : Int) == 0) = true := by rw [hp0]; rfl
    clear hp0 h0
    go_enter Try.func15, Try.ntmps15
    go_wp2_with fail
    (with_reducible refine (rvalid_yes a p ca w HA.out HP.out).mono ?_)
    rintro e w1 ⟨rfl, rfl⟩
    go_wp2_with fail
    (with_reducible refine (rvalid_yes b q cb w HB.out HQ.out).mono ?_)
    rintro e w1 ⟨rfl, rfl⟩
    go_wp2_with fail
    exact bodyPost_ret (v := .tuple #[.slice none 0 0, .int .i64 0]) (by simp [results, Try.results15, go_sem]) rfl ⟨rfl, Below.refl _ _⟩
  · have hz1 : ((p.length : Int) == 0) = false := beq_false_of_ne (by omega)
    have hz2 : ((q.length : Int) == 0) = true := by rw [show q.length = 0 by omega]; rfl
    clear hp0 h0
    go_enter Try.func15, Try.ntmps15
    go_wp2_with fail
    (with_reducible refine (rvalid_yes a p ca w HA.out HP.out).mono ?_)
    rintro e w1 ⟨rfl, rfl⟩
    go_wp2_with fail
    (with_reducible refine (rvalid_yes b q cb w HB.out HQ.out).mono ?_)
    rintro e w1 ⟨rfl, rfl⟩
    go_wp2_with fail
    exact bodyPost_ret (v := .tuple #[.slice none 0 0, .int .i64 0]) (by simp [results, Try.results15, go_sem]) rfl ⟨rfl, Below.refl _ _⟩
set_option maxRecDepth 100000 in
set_option maxHeartbeats 1000000 in
theorem rmul_limit (a b : Option Addr) (ca cb : Nat) (p q : List PM.G) (w : World) (ha : Row w a p ca) (hb : Row w b q cb) (hp : Pol p) (hq : Pol q) (hp0 : 0 < p.length) (hq0 : 0 < q.length) (hl : 256 < p.length + q.length) :
    Calls Try.prog 15 #[.slice a p.length ca, .slice b q.length cb] w fun e W => e = .returned (.tuple #[.slice none 0 0, .int .i64 3]) ∧ Below w.heap.size w W := by
  have hlp := hp.len
  have hlq := hq.len
  have HA := Lib.hid ha
  have HB := Lib.hid hb
  have HP := Lib.hid hp
  have HQ := Lib.hid hq
  clear ha hb hp hq
  have hz1 : ((p.length : Int) == 0) = false := beq_false_of_ne (by omega)
  have hz2 : ((q.length : Int) == 0) = false := beq_false_of_ne (by omega)
  go_enter Try.func15, Try.ntmps15
  go_wp2_with fail
  (with_reducible refine (rvalid_yes a p ca w HA.out HP.out).mono ?_)
  rintro e w1 ⟨rfl, rfl⟩
  go_wp2_with fail
  (with_reducible refine (rvalid_yes b q cb w HB.out HQ.out).mono ?_)
  rintro e w1 ⟨rfl, rfl⟩
  go_wp2_with fail
  exact bodyPost_ret (v := .tuple #[.slice none 0 0, .int .i64 3]) (by simp [results, Try.results15, go_sem]) rfl ⟨rfl, Below.refl _ _⟩
end Go.Proofs.Ytfbogjibofeckaa.P
