/- SymbolLinear: the walk. -/
import Derived.Test.YtcpjekggagcinaaK4
import Derived.Test.YtcpjekggagcinaaKSLinM
import Derived.Test.YtcpjekggagcinaaQuietW
import Derived.Deep.RegionHeld
namespace Go.Proofs.Ytcpjekggagcinaa.P
open Go Go.RowKit Go.Shelf
open G.S (codeV Cd code_box box4_at)
open G (Box IRow Dice grown_then)

set_option maxRecDepth 100000 in
set_option maxHeartbeats 4000000 in
theorem symbolLinear_any (a : Option Addr) (cap : Nat) (ts : List Int) (f : PM.G) (w : World) (hR : IRow w a ts cap) :
    Calls Try.prog 6 #[.slice a ts.length cap, .int .u8 (f.v : Int)] w fun e W => e = .returned (.bool true) ∧ Below w.heap.size w W := by
  have hroom := hR.room
  have hmost := hR.most
  by_cases h400 : (ts.length : Int) ≤ 400
  case neg =>
    have hd : decide ((ts.length : Int) ≤ 400) = false := by simpa using h400
    have HL := Lib.hid (G.light_any a ts.length cap w)
    rw [hd] at HL
    clear hd hR
    go_enter Try.func6, Try.ntmps6
    go_wp2_with fail
    refine HL.out.mono ?_
    rintro e w1 ⟨rfl, rfl⟩
    go_wp2_with fail
    refine (awake_yes _).mono ?_
    rintro e w2 ⟨rfl, hb2⟩
    go_wp2_with fail
    exact bodyPost_ret (v := .bool true) (by simp [results, Try.results6, go_sem]) rfl ⟨rfl, hb2⟩
  case pos =>
    have hd : decide ((ts.length : Int) ≤ 400) = true := by simpa using h400
    have HL := Lib.hid (G.light_any a ts.length cap w)
    rw [hd] at HL
    have HRO := Lib.hid (G.roll_any a cap ts w hR (by omega))
    clear hd hR
    go_enter Try.func6, Try.ntmps6
    go_wp2_with fail
    refine HL.out.mono ?_
    rintro e w1 ⟨rfl, rfl⟩
    go_wp2_with fail
    refine HRO.out.mono ?_
    rintro e w1 ⟨rfl, hd1, hb1⟩
    have HSY := Lib.hid (symbols_any w1 w.heap.size a cap ts 0 hd1)
    have HFAR := Lib.hid hd1.far
    have hdp1 := hd1.lt
    have HB1 := Lib.hid hb1
    clear hd1 hb1 HL HRO
    go_wp2_with fail
    refine HSY.out.mono ?_
    rintro e w2 ⟨D, C, F, k2, hcd, hF, rfl, hd2, hg2⟩
    unfold codeV
    have hs12 := hg2.size
    have hbw2 := below_dice HB1.out hg2 (Nat.le_refl _)
    obtain ⟨pc, w3, W3, hpc, hw3, hst, hbx3, hb23, hpl3⟩ := new_code w2 D C F
    have HCD := Lib.hid hcd
    have HF := Lib.hid hF
    have HC3 := Lib.hid hbx3
    have HD3 := Lib.hid (hd2.below hb23)
    have HB3 := Lib.hid (hbw2.trans (hb23.mono hbw2.size))
    obtain ⟨hD1, hD2, hC1, hC2, _⟩ := hcd
    have hdpc : w.heap.size < pc := by omega
    have hdp3 := HD3.out.lt
    obtain ⟨Wa, Wb, Wc, e1, e2, e3, e4, f1, f2, f3, f4, f5, f6, f7, f8⟩ := hst
    have hdp : w.heap.size ≤ w.heap.size := Nat.le_refl _
    clear hd2 hg2 hbw2 hbx3 hb23 HSY HB1 hF
    have q1 : W3.drew.cell? ⟨pc, 1, none⟩ = some (.int .i64 (D : Int)) := (HC3.out.drewN 1).cell 1 rfl
    have HBY := Lib.hid (bytesG_any W3.drew w.heap.size a cap ts k2 D (by omega) (HD3.out.drewN 1))
    obtain ⟨x0, x1, x2, x3⟩ := box4_at HC3.out
    go_upto_region 5 with fail
    clear HD3 e1 e2 e3 e4 f1 f2 f3 f4 f5 f6 f7 f8 hw3
    go_cut [7, 8] (fun p q wx => ∃ (da db : List PM.G) (aa ab : Option Addr) (ca cb : Nat), p = .slice aa D ca ∧ q = .slice ab D cb ∧ da.length = D ∧ db.length = D ∧ Own wx W3.heap.size (.slice aa D ca) da ∧ Own wx W3.heap.size (.slice ab D cb) db ∧ W3.grownBy wx (some w.heap.size))
    case first =>
      clear x0 x1 x2 x3
      go_region_law (first
        | (go_simp; go_at_call 13; (with_reducible refine HBY.out.mono ?_); rintro e w4 ⟨da, aa, ca, k4, hla, rfl, ho4, hd4, hg4⟩; have r1 := G.cell_grown hg4 (show pc ≠ w.heap.size by omega) q1; have hob : W3.heap.size ≤ W3.drew.heap.size := Nat.le_refl _; have HOA := Lib.hid (ho4.mono hob); have HDA := Lib.hid (show (Value.slice aa D ca).ownBlock ≠ some w.heap.size by intro e; have := (World.ownsRow.lt (ho4.mono hob) _ e).1; omega); have HGA := Lib.hid (G.grown_trans (grown_drewN (World.grownBy.refl W3 (some w.heap.size)) 1) hg4); have HB2 := Lib.hid (bytesG_any w4 w.heap.size a cap ts k4 D (by omega) hd4); have HLA := Lib.hid hla; clear hla ho4 hd4 hg4 hob; go_simp)
        | (go_simp; go_at_call 13; (with_reducible refine HB2.out.mono ?_); rintro e w5 ⟨db, ab, cb, k5, hlb, rfl, ho5, hd5, hg5⟩; have HOB := Lib.hid (ho5.mono HGA.out.size); have HOA2 := Lib.hid (HOA.out.grown hg5 (.inr HDA.out)); have HGB := Lib.hid (G.grown_trans HGA.out hg5); have HLB := Lib.hid hlb; clear hlb ho5 hd5 hg5; go_simp))
      all_goals (
        go_wp2_with fail
        go_meet
        exact ⟨da, db, aa, ab, ca, cb, rfl, rfl, HLA.out, HLB.out, HOA2.out, HOB.out, HGB.out⟩)
    case rest =>
      obtain ⟨da, db, aa, ab, ca, cb, rfl, rfl, hla, hlb, hoa, hob, hg⟩ := hcut
      have HLA := Lib.hid hla
      have HLB := Lib.hid hlb
      have HOA := Lib.hid hoa
      have HOB := Lib.hid hob
      have HC5 := Lib.hid (HC3.out.grown hg (by intro e; cases e; omega))
      have HB5 := Lib.hid (below_dice HB3.out hg (Nat.le_refl _) HB3.out.size)
      clear hla hlb hoa hob hg HC3 HB3 HBY q1 x0 x1 x2 x3
      go_wp2_with fail
      go_loopw [9, 10] (fun s i wr => ∃ (j : Nat) (az : Option Addr) (cz : Nat), i = .int .i64 (j : Int) ∧ j ≤ D ∧ s = .slice az j cz ∧ Own wr wc.heap.size (.slice az j cz) (linL f da db j) ∧ Below wc.heap.size wc wr) (fun _ i _ => D - (intOf i).toNat)
      case atStart => exact ⟨0, none, 0, rfl, by omega, rfl, by rw [linL_0]; exact Own.nil _ _, Below.refl _ _⟩
      case round => as_aux_lemma =>
        obtain ⟨j, az, cz, rfl, hj, rfl, ho, hb⟩ := hrel
        have HZ := Lib.hid ho
        have HB := Lib.hid hb
        have hzr := (ho.rowAtN (linL_len f da db j)).room
        rw [linL_len] at hzr
        have hcx := HC5.out.below hb
        obtain ⟨x0, x1, x2, x3⟩ := box4_at hcx
        clear hcx
        by_cases hlt : j < D
        · obtain ⟨b1, o1, eb1, hc1⟩ := ((HOA.out.below hb).rowAtN HLA.out).el j (by rw [HLA.out]; exact hlt)
          subst eb1
          obtain ⟨b2, o2, eb2, hc2⟩ := ((HOB.out.below hb).rowAtN HLB.out).el j (by rw [HLB.out]; exact hlt)
          subst eb2
          have har := ((HOA.out.below hb).rowAtN HLA.out).room
          have ham := ((HOA.out.below hb).rowAtN HLA.out).most
          have hbr := ((HOB.out.below hb).rowAtN HLB.out).room
          have hbm := ((HOB.out.below hb).rowAtN HLB.out).most
          rw [HLA.out] at har
          rw [HLB.out] at hbr
          have hsn := linL_step f da db j
          obtain ⟨x, hx⟩ : ∃ x, PM.el da j = x := ⟨_, rfl⟩
          obtain ⟨y, hy⟩ : ∃ y, PM.el db j = y := ⟨_, rfl⟩
          rw [hx] at hc1 hsn
          rw [hy] at hc2 hsn
          obtain ⟨p, hp⟩ : ∃ p, f * y = p := ⟨_, rfl⟩
          have HM := Lib.hid (show ∀ W, Calls Try.prog 22 #[.int .u8 (f.v : Int), .int .u8 (y.v : Int)] W fun e W' => e = .returned (.int .u8 (p.v : Int)) ∧ W = W' from fun W => by rw [← hp]; exact G.S.fmul f y W)
          have hxor := G.S.xor_G x p
          rw [hp] at hsn
          obtain ⟨z, hz⟩ : ∃ z, x + p = z := ⟨_, rfl⟩
          rw [hz] at hxor hsn
          have HSN := Lib.hid hsn
          have HJL := Lib.hid (linL_len f da db j)
          have q1 : wr.drew.cell? ⟨b1, o1 + j, none⟩ = some (.int .u8 (x.v : Int)) := hc1
          have q2 : wr.drew.cell? ⟨b2, o2 + j, none⟩ = some (.int .u8 (y.v : Int)) := hc2
          have hws : wc.heap.size ≤ wr.heap.size := hb.size
          clear hx hy hp hz hsn hc1 hc2 ho hb
          have hb1 : b1 < wc.heap.size := (HOA.out.rowAtN HLA.out).lt (by rw [HLA.out]; omega)
          have hb2 : b2 < wc.heap.size := (HOB.out.rowAtN HLB.out).lt (by rw [HLB.out]; omega)
          go_wp2_with fail
          have hmx : Try.prog.follows .mixedOrders = true := by kernel_rfl
          refine wp_region_held (S := fun W' : World => W'.cell? ⟨b1, o1 + j, none⟩ = some (.int .u8 (x.v : Int)) ∧ W'.cell? ⟨b2, o2 + j, none⟩ = some (.int .u8 (y.v : Int))) hmx ?_
          have hHeld := (show (fun W' : World => W'.cell? ⟨b1, o1 + j, none⟩ = some (.int .u8 (x.v : Int)) ∧ W'.cell? ⟨b2, o2 + j, none⟩ = some (.int .u8 (y.v : Int))) wr.drew from ⟨q1, q2⟩)
          refine wpAnyH_at 0 (some 45) (v := ?_) rfl rfl (by kernel_rfl) (by kernel_rfl) (by kernel_rfl) (fun _ _ _ h => h) (Or.inl ⟨by rfl, ?_⟩) hHeld ?_
          rotate_left
          · (intro W2 hSw; obtain ⟨j2, j3⟩ := hSw; go_simp; try with_reducible rfl)
          simp only [Act.put, List.setIfInBounds_toArray, List.set_cons_zero, List.set_cons_succ]
          refine wpAnyH_at 1 (some 46) (v := ?_) rfl rfl (by kernel_rfl) (by kernel_rfl) (by kernel_rfl) (fun _ _ _ h => h) (Or.inl ⟨by rfl, ?_⟩) hHeld ?_
          rotate_left
          · (intro W2 hSw; obtain ⟨j2, j3⟩ := hSw; go_simp; try with_reducible rfl)
          simp only [Act.put, List.setIfInBounds_toArray, List.set_cons_zero, List.set_cons_succ]
          refine wpAnyH_at 2 (some 47) (v := ?_) rfl rfl (by kernel_rfl) (by kernel_rfl) (by kernel_rfl) (fun _ _ _ h => h) (Or.inl ⟨by rfl, ?_⟩) hHeld ?_
          rotate_left
          · (intro W2 hSw; obtain ⟨j2, j3⟩ := hSw; go_simp; try with_reducible rfl)
          simp only [Act.put, List.setIfInBounds_toArray, List.set_cons_zero, List.set_cons_succ]
          refine wpAnyH_at 3 (some 48) (v := ?_) rfl rfl (by kernel_rfl) (by kernel_rfl) (by kernel_rfl) (fun _ _ _ h => h) (Or.inl ⟨by rfl, ?_⟩) hHeld ?_
          rotate_left
          · (intro W2 hSw; obtain ⟨j2, j3⟩ := hSw; go_simp; try with_reducible rfl)
          simp only [Act.put, List.setIfInBounds_toArray, List.set_cons_zero, List.set_cons_succ]
          refine wpAnyH_at 4 (some 49) (v := ?_) rfl rfl (by kernel_rfl) (by kernel_rfl) (by kernel_rfl) (fun _ _ _ h => h) (Or.inl ⟨by rfl, ?_⟩) hHeld ?_
          rotate_left
          · (intro W2 hSw; obtain ⟨j2, j3⟩ := hSw; go_simp; try with_reducible rfl)
          simp only [Act.put, List.setIfInBounds_toArray, List.set_cons_zero, List.set_cons_succ]
          refine wpAnyH_at 5 (some 50) (v := ?_) rfl rfl (by kernel_rfl) (by kernel_rfl) (by kernel_rfl) (fun _ _ _ h => h) (Or.inl ⟨by rfl, ?_⟩) hHeld ?_
          rotate_left
          · (intro W2 hSw; obtain ⟨j2, j3⟩ := hSw; go_simp; try with_reducible rfl)
          simp only [Act.put, List.setIfInBounds_toArray, List.set_cons_zero, List.set_cons_succ]
          refine wpAnyH_at 6 (some 51) (v := ?_) rfl rfl (by kernel_rfl) (by kernel_rfl) (by kernel_rfl) (fun _ _ _ h => h) (Or.inl ⟨by rfl, ?_⟩) hHeld ?_
          rotate_left
          · (intro W2 hSw; obtain ⟨j2, j3⟩ := hSw; go_simp; try with_reducible rfl)
          simp only [Act.put, List.setIfInBounds_toArray, List.set_cons_zero, List.set_cons_succ]
          refine wpAnyH_at 7 (some 52) (v := ?_) rfl rfl (by kernel_rfl) (by kernel_rfl) (by kernel_rfl) (fun _ _ _ h => h) (Or.inl ⟨by rfl, ?_⟩) hHeld ?_
          rotate_left
          · (intro W2 hSw; obtain ⟨j2, j3⟩ := hSw; go_simp; try with_reducible rfl)
          simp only [Act.put, List.setIfInBounds_toArray, List.set_cons_zero, List.set_cons_succ]
          refine wpAnyH_at 8 (some 53) (v := ?_) rfl rfl (by kernel_rfl) (by kernel_rfl) (by kernel_rfl) (fun _ _ _ h => h) (Or.inl ⟨by rfl, ?_⟩) hHeld ?_
          rotate_left
          · (intro W2 hSw; obtain ⟨j2, j3⟩ := hSw; go_simp; try with_reducible rfl)
          simp only [Act.put, List.setIfInBounds_toArray, List.set_cons_zero, List.set_cons_succ]
          refine wpAnyH_at 9 (some 54) (v := ?_) rfl rfl (by kernel_rfl) (by kernel_rfl) (by kernel_rfl) (fun _ _ _ h => h) (Or.inl ⟨by rfl, ?_⟩) hHeld ?_
          rotate_left
          · (intro W2 hSw; obtain ⟨j2, j3⟩ := hSw; go_simp; try with_reducible rfl)
          simp only [Act.put, List.setIfInBounds_toArray, List.set_cons_zero, List.set_cons_succ]
          refine wpAnyH_ready (rs := [10]) (by kernel_rfl) (by simp) ?_
          refine AllReadyH.cons rfl (fun K hK => ?_) AllReadyH.nil
          go_simp
          (with_reducible refine (HM.out _).mono ?_)
          rintro e w10 ⟨rfl, rfl⟩
          refine hK.out _ _ ⟨q1, q2⟩ (fun hHeld => ?_)
          clear hK K
          refine wpAnyH_at 11 (some 56) (v := ?_) rfl rfl (by kernel_rfl) (by kernel_rfl) (by kernel_rfl) (fun _ _ _ h => h) (Or.inl ⟨by rfl, ?_⟩) hHeld ?_
          rotate_left
          · (intro W2 hSw; obtain ⟨j2, j3⟩ := hSw; go_simp; try with_reducible rfl)
          simp only [Act.put, List.setIfInBounds_toArray, List.set_cons_zero, List.set_cons_succ]
          refine wpAnyH_ready (rs := [12]) (by kernel_rfl) (by simp) ?_
          refine AllReadyH.cons rfl (fun K hK => ?_) AllReadyH.nil
          go_simp
          refine hK.out _ _ ⟨G.cell_later (w := wr) _ q1, G.cell_later (w := wr) _ q2⟩ (fun hHeld => ?_)
          clear hK K
          refine wpAnyH_ready (rs := [13]) (by kernel_rfl) (by simp) ?_
          refine AllReadyH.cons rfl (fun K hK => ?_) AllReadyH.nil
          refine G.step_app1 (α := PM.G) (v := .slice az j cz) rfl (.tmp 45) (.tmp 57) rfl z (B := wc.heap.size) (zs := linL f da db j) (by rfl) (show G.Own (α := PM.G) ((wr.alloc _).drew) wc.heap.size _ _ from HZ.out.alloc _) (by rfl) (G.cell_new _ _ _) (by rw [HJL.out]; omega) (by simp; omega) ?_
          intro a' cap' w6 ho6 _ hb6 _
          rw [HJL.out] at ho6 ⊢
          rw [HSN.out] at ho6
          have HO6 := Lib.hid (show Own w6 wc.heap.size (.slice a' (j + 1) cap') (linL f da db (j + 1)) from ho6)
          have HB6 := Lib.hid (HB.out.trans ((((Below.refl wc.heap.size wr).alloc hws _).drew).trans hb6))
          refine hK.out _ _ ⟨(hb6.cell (show b1 < wc.heap.size from hb1)).trans (G.cell_later (w := wr) _ q1), (hb6.cell (show b2 < wc.heap.size from hb2)).trans (G.cell_later (w := wr) _ q2)⟩ (fun hHeld => ?_)
          clear hK K ho6 hb6
          refine wpAnyH_at 14 (some 9) (v := ?_) rfl rfl (by kernel_rfl) (by kernel_rfl) (by kernel_rfl) (fun _ _ _ h => h) (Or.inl ⟨by rfl, ?_⟩) hHeld ?_
          rotate_left
          · (intro W2 hSw; obtain ⟨j2, j3⟩ := hSw; go_simp; try with_reducible rfl)
          simp only [Act.put, List.setIfInBounds_toArray]
          refine wpAnyH_done (by kernel_rfl) ?_ _
          clear hHeld q1 q2 HM HZ HB
          go_wp2_with fail
          go_roundw
          case rel => exact ⟨j + 1, a', cap', by go_num, hlt, rfl, HO6.out, HB6.out⟩
          case measure => simp [intOf]; omega
        · obtain rfl : D = j := by omega
          have HBZ := Lib.hid (HB5.out.trans (hb.mono HB5.out.size))
          have HC6 := Lib.hid (HC5.out.below hb)
          have HOA6 := Lib.hid (HOA.out.below hb)
          have HOB6 := Lib.hid (HOB.out.below hb)
          obtain ⟨n, hn⟩ : ∃ n, D + C = n := ⟨_, rfl⟩
          have en : (D : Int) + (C : Int) = (n : Int) := by omega
          have hn40 : n ≤ 40 := by omega
          have hn1 : 1 ≤ n := by omega
          have HN := Lib.hid hn
          have HJL := Lib.hid (linL_len f da db D)
          have hen1 := encode_yes HCD.out HF.out aa da ca wr (HOA6.out.rowAtN HLA.out) HLA.out
          unfold codeV EncR at hen1
          rw [hn] at hen1
          have HE1 := Lib.hid hen1
          have hen2 := fun W h => encode_yes HCD.out HF.out ab db cb W h HLB.out
          unfold codeV EncR at hen2
          rw [hn] at hen2
          have HE2 := Lib.hid hen2
          have hen3 := fun W h => encode_yes HCD.out HF.out az (linL f da db D) cz W h HJL.out
          unfold codeV EncR at hen3
          rw [hn] at hen3
          have HE3 := Lib.hid hen3
          clear ho hb hen1 hen2 hen3 HB hn HB5 HC5 HOA HOB
          go_wp2_with fail
          (with_reducible refine HE1.out.mono ?_)
          rintro e w6 ⟨xs, ax, cx, rfl, hox, hex, hb6⟩
          have HX := Lib.hid hex
          have HOX := Lib.hid hox
          have HC7 := Lib.hid (HC6.out.below hb6)
          have HB7 := Lib.hid (HBZ.out.trans (hb6.mono HBZ.out.size))
          have HOA7 := Lib.hid (HOA6.out.below hb6)
          have HOB7 := Lib.hid (HOB6.out.below hb6)
          have HZ7 := Lib.hid (HZ.out.below hb6)
          have HE2' := Lib.hid (HE2.out w6 (HOB7.out.rowAtN HLB.out))
          obtain ⟨y0, y1, y2, y3⟩ := box4_at HC7.out
          clear hox hex hb6 HC6 HBZ HOA6 HOB6 HZ HE1 HE2
          go_wp2_with fail
          (with_reducible refine HE2'.out.mono ?_)
          rintro e w7 ⟨ys, ay, cy, rfl, hoy, hey, hb7⟩
          have HY := Lib.hid hey
          have HOY := Lib.hid hoy
          have HC8 := Lib.hid (HC7.out.below hb7)
          have HB8 := Lib.hid (HB7.out.trans (hb7.mono HB7.out.size))
          have HOA8 := Lib.hid (HOA7.out.below hb7)
          have HOB8 := Lib.hid (HOB7.out.below hb7)
          have HOX8 := Lib.hid (HOX.out.below hb7)
          have HZ8 := Lib.hid (HZ7.out.below hb7)
          have HE3' := Lib.hid (HE3.out w7 (HZ8.out.rowAtN HJL.out))
          clear y0 y1 y2 y3
          obtain ⟨y0, y1, y2, y3⟩ := box4_at HC8.out
          clear hoy hey hb7 HC7 HB7 HOA7 HOB7 HOX HZ7 HE3 HE2'
          go_wp2_with fail
          (with_reducible refine HE3'.out.mono ?_)
          rintro e w8 ⟨zs, az', cz', rfl, hoz, hez, hb8⟩
          have HEZ := Lib.hid hez
          have HOZ := Lib.hid hoz
          have HC9 := Lib.hid (HC8.out.below hb8)
          have HB9 := Lib.hid (HB8.out.trans (hb8.mono HB8.out.size))
          have HOA9 := Lib.hid (HOA8.out.below hb8)
          have HOB9 := Lib.hid (HOB8.out.below hb8)
          have HOX9 := Lib.hid (HOX8.out.below hb8)
          have HOY9 := Lib.hid (HOY.out.below hb8)
          clear y0 y1 y2 y3
          obtain ⟨y0, y1, y2, y3⟩ := box4_at HC9.out
          clear hoz hez hb8 HC8 HB8 HOA8 HOB8 HOX8 HOY HZ8 HE3'
          go_wp2_with fail
          refine (awake_yes _).mono ?_
          rintro e w9 ⟨rfl, hb9⟩
          have hnn : ((n : Int) != (n : Int)) = false := by simp
          have HC10 := Lib.hid (HC9.out.below hb9)
          have HB10 := Lib.hid (HB9.out.trans (hb9.mono HB9.out.size))
          have HRA := Lib.hid ((HOA9.out.below hb9).rowAtN HLA.out)
          have HRB := Lib.hid ((HOB9.out.below hb9).rowAtN HLB.out)
          have HXL := Lib.hid (show xs.length = n by rw [HX.out.cw.len]; exact HN.out)
          have HYL := Lib.hid (show ys.length = n by rw [HY.out.cw.len]; exact HN.out)
          have HZL := Lib.hid (show zs.length = n by rw [HEZ.out.cw.len]; exact HN.out)
          have HRX := Lib.hid ((HOX9.out.below hb9).rowAtN HXL.out)
          have HRY := Lib.hid ((HOY9.out.below hb9).rowAtN HYL.out)
          have HRZ := Lib.hid ((HOZ.out.below hb9).rowAtN HZL.out)
          have hcx1 : n ≤ cx := by have := HRX.out.room; rwa [HXL.out] at this
          have hcx2 : cx ≤ 9223372036854775807 := HRX.out.most
          have hcy1 : n ≤ cy := by have := HRY.out.room; rwa [HYL.out] at this
          have hcy2 : cy ≤ 9223372036854775807 := HRY.out.most
          have hcz1 : n ≤ cz' := by have := HRZ.out.room; rwa [HZL.out] at this
          have hcz2 : cz' ≤ 9223372036854775807 := HRZ.out.most
          have HLIN := Lib.hid (show ∀ i, i < n → PM.el xs i + f * PM.el ys i = PM.el zs i by rw [← HN.out]; exact lin_enc (by omega) HX.out HY.out HEZ.out)
          have HFAR := Lib.hid (show da ≠ db → C < (diff xs ys n).length by rw [← HN.out]; exact far_enc (by omega) HLA.out HLB.out HX.out HY.out)
          have HSY := Lib.hid (show ∀ W, Row W ax xs cx → Calls Try.prog 23 #[.agg #[.int .i64 2, .int .i64 (D : Int), .int .i64 (C : Int), .int .i64 (F : Int)], .slice ax n cx] W (SynR W D C xs) from fun W h => by have h2 := syndromes_yes HCD.out HF.out ax xs cx W h (by rw [HXL.out, HN.out]); rw [HN.out] at h2; exact h2)
          have HSZ := Lib.hid (show ∀ i, i < C → PM.el (synL D C xs) i = 0 from fun i hi => syn_el HX.out.cw hi)
          clear hb9 y0 y1 y2 y3 HC9 HB9 HOA9 HOB9 HOX9 HOY9 HOZ HX HY HEZ
          go_wp2_with fail
          go_loopw [18, 19] (fun c i wz => ∃ j : Nat, i = .int .i64 (j : Int) ∧ j ≤ n ∧ c = .int .i64 ((diff xs ys j).length : Int) ∧ Below w9.heap.size w9 wz) (fun _ i _ => n - (intOf i).toNat)
          case atStart => exact ⟨0, rfl, by omega, by rw [diff_0]; rfl, Below.refl _ _⟩
          case round => as_aux_lemma =>
            obtain ⟨j, rfl, hj, rfl, hbz⟩ := hrel
            have HBZ := Lib.hid hbz
            have HBZD := Lib.hid (show Below w9.heap.size w9 wr.drew from hbz.drew)
            have hdl := diff_le xs ys j
            by_cases hlt : j < n
            · obtain ⟨b1, o1, eb1, hc1⟩ := (HRX.out.below hbz).el j (by rw [HXL.out]; exact hlt)
              subst eb1
              obtain ⟨b2, o2, eb2, hc2⟩ := (HRY.out.below hbz).el j (by rw [HYL.out]; exact hlt)
              subst eb2
              obtain ⟨b3, o3, eb3, hc3⟩ := (HRZ.out.below hbz).el j (by rw [HZL.out]; exact hlt)
              subst eb3
              have hlin := HLIN.out j hlt
              obtain ⟨x, hx⟩ : ∃ x, PM.el xs j = x := ⟨_, rfl⟩
              obtain ⟨y, hy⟩ : ∃ y, PM.el ys j = y := ⟨_, rfl⟩
              obtain ⟨z, hz⟩ : ∃ z, PM.el zs j = z := ⟨_, rfl⟩
              rw [hx] at hc1
              rw [hy] at hc2
              rw [hz] at hc3
              rw [hx, hy, hz] at hlin
              obtain ⟨p, hp⟩ : ∃ p, f * y = p := ⟨_, rfl⟩
              have HM := Lib.hid (show ∀ W, Calls Try.prog 22 #[.int .u8 (f.v : Int), .int .u8 (y.v : Int)] W fun e W' => e = .returned (.int .u8 (p.v : Int)) ∧ W = W' from fun W => by rw [← hp]; exact G.S.fmul f y W)
              have hxor := G.S.xor_G x p
              rw [hp] at hlin
              rw [hlin] at hxor
              have hzz : ((z.v : Int) != (z.v : Int)) = false := by simp
              have p1 : wr.cell? ⟨b1, o1 + j, none⟩ = some (.int .u8 (x.v : Int)) := hc1
              have p2 : wr.cell? ⟨b2, o2 + j, none⟩ = some (.int .u8 (y.v : Int)) := hc2
              have p3 : wr.cell? ⟨b3, o3 + j, none⟩ = some (.int .u8 (z.v : Int)) := hc3
              have HP1 := Lib.hid p1
              have HP2 := Lib.hid p2
              have q1 : ∀ u : Over wr, u.w.cell? ⟨b1, o1 + j, none⟩ = some (.int .u8 (x.v : Int)) := fun u => G.cell_below u.h HP1.out
              have q2 : ∀ u : Over wr, u.w.cell? ⟨b2, o2 + j, none⟩ = some (.int .u8 (y.v : Int)) := fun u => G.cell_below u.h HP2.out
              have q3 : ∀ u : Over wr, u.w.cell? ⟨b3, o3 + j, none⟩ = some (.int .u8 (z.v : Int)) := fun u => G.cell_below u.h p3
              have HXY := Lib.hid (And.intro hx hy)
              obtain ⟨k, hk⟩ : ∃ k, (diff xs ys j).length = k := ⟨_, rfl⟩
              have HK := Lib.hid hk
              rw [hk] at hdl ⊢
              have HMO := Lib.hid (fun u : Over wr => (show Calls Try.prog 22 #[.int .u8 (f.v : Int), .int .u8 (y.v : Int)] u.w fun e W => e = .returned (.int .u8 (p.v : Int)) ∧ Below u.w.heap.size u.w W from (HM.out u.w).mono fun e W h => ⟨h.1, by rw [← h.2]; exact Below.refl _ _⟩))
              clear hp hlin hz hx hy hc1 hc2 hc3 hbz p1 p2 p3 hk HM
              go_upto_region 21 with fail
              go_cut [134] (fun v wx => v = .bool false ∧ Below wr.heap.size wr wx)
              case first =>
                refine wp_region_over (by kernel_rfl) (by kernel_rfl) ?_
                repeat (go_big_quiet_step (first | exact fun _ => rfl | rfl | (with_reducible exact quiet_over (HMO.out _))))
                refine wpQuiet_nil ?_
                intro _ hw'
                obtain ⟨nq, rfl⟩ := hw'
                go_wp2_with fail
                go_meet
                exact ⟨by first | rfl | trivial, nq.h⟩
              case rest =>
                obtain ⟨rfl, hbc⟩ := hcut
                have hbz2 : Below w9.heap.size w9 wc := HBZ.out.trans (hbc.mono HBZ.out.size)
                have HB2D := Lib.hid (show Below w9.heap.size w9 wc.drew from hbz2.drew)
                have r1 : wc.drew.cell? ⟨b1, o1 + j, none⟩ = some (.int .u8 (x.v : Int)) := show wc.cell? _ = _ from G.cell_below hbc HP1.out
                have r2 : wc.drew.cell? ⟨b2, o2 + j, none⟩ = some (.int .u8 (y.v : Int)) := show wc.cell? _ = _ from G.cell_below hbc HP2.out
                have hne := @beq_G x y
                clear q1 q2 q3 HMO hbc hbz2 hxor hzz
                by_cases h : x = y
                · rw [decide_eq_false (fun h2 => h2 h)] at hne
                  have HEQ := Lib.hid h
                  clear h
                  go_wp2_with fail
                  go_region
                  go_wp2_with fail
                  go_roundw
                  case rel => exact ⟨j + 1, by go_num, hlt, by rw [diff_no (by rw [HXY.out.1, HXY.out.2, HEQ.out]), HK.out], HB2D.out⟩
                  case measure => simp [intOf]; omega
                · rw [decide_eq_true h] at hne
                  have HNE := Lib.hid h
                  clear h
                  go_wp2_with fail
                  go_region
                  go_wp2_with fail
                  go_roundw
                  case rel => exact ⟨j + 1, by go_num, hlt, by rw [diff_yes (by rw [HXY.out.1, HXY.out.2]; exact HNE.out), List.length_append, HK.out]; go_num, HB2D.out⟩
                  case measure => simp [intOf]; omega
            · obtain rfl : n = j := by omega
              have HSY' := Lib.hid (HSY.out wr (HRX.out.below hbz))
              unfold SynR at HSY'
              obtain ⟨dl, hdl'⟩ : ∃ k, (diff xs ys n).length = k := ⟨_, rfl⟩
              have HDL := Lib.hid hdl'
              rw [hdl'] at hdl ⊢
              obtain ⟨y0, y1, y2, y3⟩ := box4_at (HC10.out.below hbz)
              clear hbz hdl'
              go_wp2_with fail
              (with_reducible refine HSY'.out.mono ?_)
              rintro e w10 ⟨al, cs, rfl, hos, hb10⟩
              have HOS := Lib.hid (hos.rowAtN (synL_len D C xs))
              have hsr := (hos.rowAtN (synL_len D C xs)).room
              rw [synL_len] at hsr
              have hsm := (hos.rowAtN (synL_len D C xs)).most
              have HB11 := Lib.hid (HBZ.out.trans (hb10.mono HBZ.out.size))
              clear hos hb10 HSY' y0 y1 y2 y3
              go_wp2_with fail
              go_loopw [22] (fun i wz => ∃ j : Nat, i = .int .i64 (j : Int) ∧ j ≤ C ∧ Below w10.heap.size w10 wz) (fun i _ => C - (intOf i).toNat)
              case atStart => exact ⟨0, rfl, by omega, Below.refl _ _⟩
              case round => as_aux_lemma =>
                obtain ⟨j, rfl, hj, hbz⟩ := hrel
                have HBZ2 := Lib.hid hbz
                by_cases hlt : j < C
                · obtain ⟨b1, o1, eb1, hc1⟩ := (HOS.out.below hbz).el j (by rw [synL_len]; exact hlt)
                  subst eb1
                  rw [HSZ.out j hlt] at hc1
                  have q1 : wr.cell? ⟨b1, o1 + j, none⟩ = some (.int .u8 0) := hc1
                  clear hc1 hbz
                  go_wp2_with fail
                  go_roundw
                  case rel => exact ⟨j + 1, by go_num, hlt, HBZ2.out⟩
                  case measure => simp [intOf]; omega
                · obtain rfl : C = j := by omega
                  have hb12 := HB11.out.trans (hbz.mono HB11.out.size)
                  obtain ⟨y0, y1, y2, y3⟩ := box4_at (HC10.out.below hb12)
                  have hsame := same_any aa ab ca cb da db wr (HRA.out.below hb12) (HRB.out.below hb12)
                  rw [HLA.out, HLB.out] at hsame
                  obtain ⟨t0, ht0⟩ : ∃ t, eqB da db = t := ⟨_, rfl⟩
                  rw [ht0] at hsame
                  have HSA := Lib.hid hsame
                  have hcc : ((C : Int) == (C : Int)) = true := by simp
                  have hgt : t0 = false → C < dl := fun e => by
                    rw [← HDL.out]
                    refine HFAR.out (fun h => ?_)
                    rw [e] at ht0
                    have : eqB da db = true := decide_eq_true h
                    rw [ht0] at this
                    cases this
                  have HGT := Lib.hid hgt
                  have HB13 := Lib.hid (HB10.out.trans (hb12.mono HB10.out.size))
                  clear hbz hb12 hsame hgt ht0
                  go_wp2_with fail
                  (with_reducible refine HSA.out.mono ?_)
                  rintro e w13 ⟨rfl, hb13⟩
                  have HB14 := Lib.hid (HB13.out.trans (hb13.mono HB13.out.size))
                  have z2 := G.cell_below hb13 y2
                  clear hb13
                  cases t0 with
                  | true =>
                    go_wp2_with fail
                    exact bodyPost_ret (v := .bool true) (by simp [results, Try.results6, go_sem]) rfl ⟨rfl, HB14.out⟩
                  | false =>
                    have hlt2 := HGT.out rfl
                    go_wp2_with fail
                    exact bodyPost_ret (v := .bool true) (by simp [results, Try.results6, go_sem]) rfl ⟨rfl, HB14.out⟩
end Go.Proofs.Ytcpjekggagcinaa.P
