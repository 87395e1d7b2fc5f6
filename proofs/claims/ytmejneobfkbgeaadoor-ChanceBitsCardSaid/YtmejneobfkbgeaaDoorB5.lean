/- The reference's mul and Mul. nat.Divide and nat.Gcd. The reference's times and less. append of any slice of ints to one of the call's own. The reference's less. The numbers of the reference's long division. The reference's Divide. The reference's Of. How many limbs sums and products have. The reference's Power. nat.Parse. What nat's and the reference's Power, Choose and Parse answer out of their ranges. chance's number, plus, power, choose. chance's product. chance's alternating. -/
import Derived.Test.YtmejneobfkbgeaaDoorB4
import Derived.Deep.RegionHeld3
import Derived.Laws.OwnMore
import Derived.Deep.RegionWith
import Derived.Deep.RegionLaw
import Derived.Deep.DeepCutAuto
import Derived.Deep.CutBlock
namespace Go.Proofs.YtmejneobfkbgeaaDoor
open Go Go.RowKit Go.Shelf

def RMulRel (w w2 : World) (g x y : Nat) (i : Value) (W : World) : Prop :=
  ∃ (k : Nat) (zs : List Int), i = .int .i64 (k : Int) ∧ k ≤ (M.dig x).length ∧ zs.length = (M.dig x).length + (M.dig y).length + 1 ∧ M.Lim zs ∧ (∀ m : Nat, k + (M.dig y).length ≤ m → M.el zs m = 0) ∧
    M.val zs = M.val ((M.dig x).take k) * y ∧ Own W (w.heap.size + 2) (.slice (some ⟨g, 0, none⟩) zs.length zs.length) zs ∧ Below w2.heap.size w2 W

def RMulIn (w w2 : World) (g x y k : Nat) (c i : Value) (W : World) : Prop :=
  ∃ (j : Nat) (zs : List Int) (q : Int), i = .int .i64 (j : Int) ∧ c = .int .i64 q ∧ j ≤ (M.dig y).length + 1 ∧ zs.length = (M.dig x).length + (M.dig y).length + 1 ∧ M.Lim zs ∧ (∀ m : Nat, k + 1 + (M.dig y).length ≤ m → M.el zs m = 0) ∧
    (j ≤ (M.dig y).length → M.el zs (k + (M.dig y).length) = 0) ∧ 0 ≤ q ∧ q < 16777216 ∧ (j = (M.dig y).length + 1 → q = 0) ∧
    M.val zs + 16777216 ^ (k + j) * q = M.val ((M.dig x).take k) * y + 16777216 ^ k * (M.el (M.dig x) k * M.val ((M.dig y).take j)) ∧ Own W (w.heap.size + 2) (.slice (some ⟨g, 0, none⟩) zs.length zs.length) zs ∧ Below w2.heap.size w2 W

set_option maxRecDepth 100000 in
set_option maxHeartbeats 2000000 in
/-- **ref01.mul** -/
theorem rmul_any (a b : Option Addr) (ca cb x y : Nat) (w : World) (hx : (M.dig x).length ≤ 200) (hy : (M.dig y).length ≤ 200) (hA : Row w a (M.dig x) ca) (hB : Row w b (M.dig y) cb) :
    Calls Tryd.prog 55 #[.agg #[.slice a (M.dig x).length ca], .agg #[.slice b (M.dig y).length cb]] w fun e W' => ∃ g zs, e = .returned (.slice (some ⟨g, 0, none⟩) zs.length zs.length) ∧ Row W' (some ⟨g, 0, none⟩) zs zs.length ∧ M.trimL zs = M.dig (x * y) ∧ Below w.heap.size w W' := by
  have hb := ((Below.refl _ w).alloc (Nat.le_refl _) (.cells #[.slice a (M.dig x).length ca] 24)).alloc (by simp) (.cells #[.slice b (M.dig y).length cb] 24)
  have HA := Lib.hid (hA.below hb)
  have HB := Lib.hid (hB.below hb)
  have HBB := Lib.hid hb
  have hra := hA.room
  have hma := hA.most
  have hrb := hB.room
  have hmb := hB.most
  have c0 := cell_later (.cells #[.slice b (M.dig y).length cb] 24) (cell_new w (.slice a (M.dig x).length ca) 24)
  have c1 := cell_new (w.alloc (.cells #[.slice a (M.dig x).length ca] 24)) (.slice b (M.dig y).length cb) 24
  simp only [World.size_alloc] at c1
  have hs2 : ((w.alloc (.cells #[.slice a (M.dig x).length ca] 24)).alloc (.cells #[.slice b (M.dig y).length cb] 24)).heap.size = w.heap.size + 2 := by simp
  have HC := Lib.hid (And.intro c0 c1)
  clear hA hB hb c0 c1
  go_enter Tryd.func55, Tryd.ntmps55
  go_wp2_with (at_make; refine wpList_make1 rfl _ _ rfl ((M.dig x).length + (M.dig y).length + 1) rfl rfl (by omega) (by omega) (B := w.heap.size + 2) (by rw [hs2]; exact Nat.le_refl _) ?_; intro w6 hown6 hb6)
  generalize ((w.alloc (.cells #[.slice a (M.dig x).length ca] 24)).alloc (.cells #[.slice b (M.dig y).length cb] 24)) = w2 at *
  have HS2 := Lib.hid hs2
  rw [hs2] at hown6
  rw [← hs2] at hb6
  clear hs2
  go_loopw [6] (fun i wr => RMulRel w w2 (w.heap.size + 2) x y i wr) (fun i _ => (M.dig x).length - (intOf i).toNat)
  case atStart => exact ⟨0, _, rfl, Nat.zero_le _, List.length_replicate, M.Lim.replicate _, fun m _ => M.el_replicate _ _, by simp [M.val_replicate, M.val], by simpa using hown6, hb6⟩
  case round =>
    obtain ⟨k, zs, rfl, hk, hlen, hlim, hz, hval, hown, hbW⟩ := hrel
    clear hown6 hb6
    have c0 := cell_below hbW HC.out.1
    have c1 := cell_below hbW HC.out.2
    have hrow := HA.out.below hbW
    by_cases hlt : k < (M.dig x).length
    · have hax := (M.lim_dig x).get k
      obtain ⟨ex, hex⟩ : ∃ ex, M.el (M.dig x) k = ex := ⟨_, rfl⟩
      obtain ⟨b1, o1, rfl, hca0⟩ := HA.out.el k hlt
      rw [hex] at hax hca0
      have HCA := Lib.hid hca0
      have HEX := Lib.hid hex
      have hi0 : RMulIn w w2 (w.heap.size + 2) x y k (.int .i64 0) (.int .i64 0) wr := ⟨0, zs, 0, rfl, rfl, by omega, hlen, hlim, fun m hm => hz m (by omega), fun _ => hz _ (Nat.le_refl _), by omega, by omega, fun h => rfl, by rw [hval]; simp [M.val], hown, hbW⟩
      have HI0 := Lib.hid hi0
      clear hi0 hex hca0 hrow hlen hlim hz hval hown hbW
      go_wp2_with fail
      clear c0 c1
      go_loopw [7, 8] (fun c i wr => RMulIn w w2 (w.heap.size + 2) x y k c i wr) (fun _ i _ => (M.dig y).length + 1 - (intOf i).toNat)
      case atStart => exact HI0.out
      case round =>
        clear HI0
        obtain ⟨j, zs, q, rfl, rfl, hj, hlen, hlim, hz, hz1, hq0, hq1, hq2, hval, hown, hbW⟩ := hrel
        have c0 := cell_below hbW HC.out.1
        have c1 := cell_below hbW HC.out.2
        have hcx := cell_below hbW HCA.out
        have HBW := Lib.hid hbW
        have HVAL := Lib.hid hval
        have HLN := Lib.hid hlen
        have HLIM := Lib.hid hlim
        have HZ := Lib.hid hz
        have HZ1 := Lib.hid hz1
        have HQ2 := Lib.hid hq2
        have HOWN := Lib.hid hown
        have HLB := Lib.hid (rlimb_any b (M.dig y) cb j wr.drew ((HB.out.below hbW).drewN 1))
        have hsW := hbW.size
        clear hval hlen hlim hown hz hz1 hq2 hbW
        by_cases hgo : j < (M.dig y).length ∨ 0 < q
        · have hjl : j ≤ (M.dig y).length := by
            rcases hgo with h | h
            · omega
            · rcases Nat.lt_or_ge j ((M.dig y).length + 1) with h1 | h1
              · omega
              · have := HQ2.out (by omega); omega
          have hby := (M.lim_dig y).get j
          obtain ⟨ey, hey⟩ : ∃ ey, M.el (M.dig y) j = ey := ⟨_, rfl⟩
          rw [hey] at hby HLB
          have HEY := Lib.hid hey
          have hmb := M.mul_bound hax hby
          have hez := HLIM.out.get (k + j)
          obtain ⟨hgB, hcz, hfz⟩ := HOWN.out.at (k + j) (by rw [HLN.out]; omega)
          obtain ⟨ez, hez'⟩ : ∃ ez, M.el zs (k + j) = ez := ⟨_, rfl⟩
          rw [hez'] at hez hcz
          have HEZ := Lib.hid hez'
          obtain ⟨pr, hpr⟩ : ∃ pr, ex * ey = pr := ⟨_, rfl⟩
          rw [hpr] at hmb
          have hwp : IntKind.i64.wrap (ex * ey) = pr := by rw [hpr, IntKind.wrap_i64]; omega
          have HPR := Lib.hid hpr
          obtain ⟨s1, hs1⟩ : ∃ s1, s1 = ez + pr := ⟨_, rfl⟩
          obtain ⟨v, hv⟩ : ∃ v, v = s1 + q := ⟨_, rfl⟩
          have hws : IntKind.i64.wrap (ez + pr) = s1 := by rw [IntKind.wrap_i64]; omega
          have hwv : IntKind.i64.wrap (s1 + q) = v := by rw [IntKind.wrap_i64]; omega
          have hvv : v = q + (ez + pr) := by omega
          have hv0 : 0 ≤ v := by omega
          have hv1 : v ≤ 281474976710655 := by omega
          have hwi : IntKind.i64.wrap ((k : Int) + (j : Int)) = (k : Int) + (j : Int) := by rw [IntKind.wrap_i64]; omega
          have hi0 : (0 : Int) ≤ (k : Int) + (j : Int) := by omega
          have hi1 : ((k : Int) + (j : Int)).toNat = k + j := by omega
          have hi2 : (k : Int) + (j : Int) < ((M.dig x).length : Int) + ((M.dig y).length : Int) + 1 := by omega
          have hi3 : (k : Int) < ((M.dig x).length : Int) := by omega
          have hi4 : (0 : Int) ≤ (k : Int) := by omega
          have hbd : Below wr.heap.size wr wr.drew := belowN (Below.refl _ _) 1
          have HVV := Lib.hid hvv
          have hgwr : w.heap.size + 2 < wr.heap.size := lt_of_cell hcz
          clear hey hez' hpr hvv hs1 hv
          have htst : ∀ (P : Prop), ((decide (j < (M.dig y).length) = true) → P) → ((decide (j < (M.dig y).length) = false) → (decide (0 < q) = true) → P) → P := fun P h1 h2 => by
            by_cases h : j < (M.dig y).length
            · exact h1 (decide_eq_true h)
            · exact h2 (decide_eq_false h) (decide_eq_true (by rcases hgo with h' | h'; exact absurd h' h; exact h'))
          refine htst _ ?_ ?_
          · intro ht
            clear htst hgo
            go_wp2_with fail
            go_region_held3 (fun w' => w'.cell? ⟨w.heap.size, 0, none⟩ = some (.slice (some ⟨b1, o1, none⟩) (M.dig x).length ca) ∧ w'.cell? ⟨w.heap.size + 1, 0, none⟩ = some (.slice b (M.dig y).length cb) ∧ w'.cell? ⟨b1, o1 + k, none⟩ = some (.int .i64 ex) ∧ w'.cell? ⟨w.heap.size + 2, k + j, none⟩ = some (.int .i64 ez))
              (first | exact ⟨c0, c1, hcx, hcz⟩ | exact ⟨cell_below hbq c0, cell_below hbq c1, cell_below hbq hcx, cell_below hbq hcz⟩)
              (first
                | (go_at_call 53; (with_reducible refine HLB.out.mono ?_); rintro e wq ⟨rfl, hbq⟩))
            have hczq := cell_below hbq hcz
            have hfzq := frozen_below hbq hcz hfz
            have hbwq := hbd.trans (hbq.mono (Nat.le_refl _))
            have HOQ := Lib.hid (HOWN.out.below hbwq)
            have HBQ := Lib.hid (HBW.out.trans (hbwq.mono hsW))
            have hgwq : w.heap.size + 2 < wq.heap.size := lt_of_cell hczq
            clear hws hwv hwp hwi hbq hbwq hbd hcx hcz hfz c0 c1
            try clear hHeld
            go_wp2_with fail
            go_roundw
            case rel =>
              have hkj : k + j < zs.length := by rw [HLN.out]; omega
              refine ⟨j + 1, zs.set (k + j) (v % 16777216), v / 16777216, by go_num, rfl, by omega, by rw [List.length_set]; exact HLN.out, HLIM.out.set _ (by omega) (by omega), fun m hm => ?_, fun hj1 => ?_, by omega, by omega, fun hj1 => ?_, ?_, by simp only [List.length_set]; exact HOQ.out.set _ _, HBQ.out.setCell (p := ⟨w.heap.size + 2, k + j, none⟩) (by rw [HS2.out]; exact Nat.le_refl _) _⟩
              · rw [M.el_set _ _ _ _ hkj, if_neg (by omega)]; exact HZ.out m hm
              · rw [M.el_set _ _ _ _ hkj, if_neg (by omega)]; exact HZ1.out hjl
              · have hjy : j = (M.dig y).length := by omega
                have e1 := HEY.out
                rw [M.el_ge (by omega)] at e1
                have e2 := HEZ.out
                rw [hjy, HZ1.out hjl] at e2
                have e3 := HPR.out
                rw [← e1, Int.mul_zero] at e3
                have e4 := HVV.out
                omega
              · rw [M.val_set _ _ _ hkj, M.val_take_succ', ← Nat.add_assoc, Int.pow_succ, HVV.out, ← HPR.out, ← HEZ.out, ← HEY.out, ← HEX.out]
                exact M.mul_step (Int.pow_add ..) HVAL.out
            case measure => simp [intOf]; omega
          · intro ht ht2
            clear htst hgo
            go_wp2_with fail
            go_region_held3 (fun w' => w'.cell? ⟨w.heap.size, 0, none⟩ = some (.slice (some ⟨b1, o1, none⟩) (M.dig x).length ca) ∧ w'.cell? ⟨w.heap.size + 1, 0, none⟩ = some (.slice b (M.dig y).length cb) ∧ w'.cell? ⟨b1, o1 + k, none⟩ = some (.int .i64 ex) ∧ w'.cell? ⟨w.heap.size + 2, k + j, none⟩ = some (.int .i64 ez))
              (first | exact ⟨c0, c1, hcx, hcz⟩ | exact ⟨cell_below hbq c0, cell_below hbq c1, cell_below hbq hcx, cell_below hbq hcz⟩)
              (first
                | (go_at_call 53; (with_reducible refine HLB.out.mono ?_); rintro e wq ⟨rfl, hbq⟩))
            have hczq := cell_below hbq hcz
            have hfzq := frozen_below hbq hcz hfz
            have hbwq := hbd.trans (hbq.mono (Nat.le_refl _))
            have HOQ := Lib.hid (HOWN.out.below hbwq)
            have HBQ := Lib.hid (HBW.out.trans (hbwq.mono hsW))
            have hgwq : w.heap.size + 2 < wq.heap.size := lt_of_cell hczq
            clear hws hwv hwp hwi hbq hbwq hbd hcx hcz hfz c0 c1
            try clear hHeld
            go_wp2_with fail
            go_roundw
            case rel =>
              have hkj : k + j < zs.length := by rw [HLN.out]; omega
              refine ⟨j + 1, zs.set (k + j) (v % 16777216), v / 16777216, by go_num, rfl, by omega, by rw [List.length_set]; exact HLN.out, HLIM.out.set _ (by omega) (by omega), fun m hm => ?_, fun hj1 => ?_, by omega, by omega, fun hj1 => ?_, ?_, by simp only [List.length_set]; exact HOQ.out.set _ _, HBQ.out.setCell (p := ⟨w.heap.size + 2, k + j, none⟩) (by rw [HS2.out]; exact Nat.le_refl _) _⟩
              · rw [M.el_set _ _ _ _ hkj, if_neg (by omega)]; exact HZ.out m hm
              · rw [M.el_set _ _ _ _ hkj, if_neg (by omega)]; exact HZ1.out hjl
              · have hjy : j = (M.dig y).length := by omega
                have e1 := HEY.out
                rw [M.el_ge (by omega)] at e1
                have e2 := HEZ.out
                rw [hjy, HZ1.out hjl] at e2
                have e3 := HPR.out
                rw [← e1, Int.mul_zero] at e3
                have e4 := HVV.out
                omega
              · rw [M.val_set _ _ _ hkj, M.val_take_succ', ← Nat.add_assoc, Int.pow_succ, HVV.out, ← HPR.out, ← HEZ.out, ← HEY.out, ← HEX.out]
                exact M.mul_step (Int.pow_add ..) HVAL.out
            case measure => simp [intOf]; omega
        · have hj1 : ¬ j < (M.dig y).length := fun h => hgo (.inl h)
          have hq : q = 0 := by
            have : ¬ 0 < q := fun h => hgo (.inr h)
            omega
          subst hq
          have ht1 : decide (j < (M.dig y).length) = false := decide_eq_false hj1
          clear hgo hj1
          go_wp2_with fail
          go_roundw
          case rel =>
            refine ⟨k + 1, zs, by go_num, by omega, HLN.out, HLIM.out, fun m hm => HZ.out m (by omega), ?_, HOWN.out, HBW.out⟩
            have hv := HVAL.out
            rw [List.take_of_length_le (l := M.dig y) (by have := of_decide_eq_false ht1; omega), M.val_dig] at hv
            have := M.mul_row hv
            rw [M.val_take_succ']
            simpa using this
          case measure => simp [intOf]; omega
    · have hk' : k = (M.dig x).length := by omega
      have hend : M.trimL zs = M.dig (x * y) := by
        refine M.mul_end hlim ?_
        rw [hval, List.take_of_length_le (by omega), M.val_dig]
      have HE := Lib.hid hend
      have HLN := Lib.hid hlen
      have HOWN := Lib.hid hown
      have HBW := Lib.hid hbW
      have HS := HS2.out
      have hB := HBB.out.trans (hbW.mono HBB.out.size)
      have HB2 := Lib.hid hB
      clear hB hend hlen hlim hz hval hown hbW hrow hk'
      go_wp2_with fail
      go_ret
      exact ⟨w.heap.size + 2, zs, by rw [HLN.out]; rfl, HOWN.out.rowAt, HE.out, HB2.out⟩

set_option maxRecDepth 100000 in
set_option maxHeartbeats 1000000 in
theorem rMul_any (a b : Option Addr) (ca cb x y : Nat) (w : World) (hx200 : (M.dig x).length ≤ 200) (hy200 : (M.dig y).length ≤ 200) (hA : Row w a (M.dig x) ca) (hB : Row w b (M.dig y) cb) :
    Calls Tryd.prog 33 #[.agg #[.slice a (M.dig x).length ca], .agg #[.slice b (M.dig y).length cb]] w fun e W' => NatRes (x * y) e W' ∧ Below w.heap.size w W' := by
  have Hvx := Lib.hid (vld_dig hx200)
  have Hvy := Lib.hid (vld_dig hy200)
  have hb3 := boxes_below w (.slice a (M.dig x).length ca) (.slice b (M.dig y).length cb)
  have hs3 := boxes_size w (.slice a (M.dig x).length ca) (.slice b (M.dig y).length cb)
  obtain ⟨c0, c1, c2, f2⟩ := boxes_cells w (.slice a (M.dig x).length ca) (.slice b (M.dig y).length cb)
  have HA := Lib.hid (hA.below hb3)
  have HB := Lib.hid (hB.below hb3)
  have HB3 := Lib.hid hb3
  clear hA hB hb3
  go_enter Tryd.func33, Tryd.ntmps33
  go_wp2_with fail
  generalize hw3 : (((w.alloc (.cells #[.slice a (M.dig x).length ca] 24)).alloc (.cells #[.slice b (M.dig y).length cb] 24)).alloc (.cells #[.slice none 0 0] 24)) = w3
  obtain rfl : boxes w (.slice a (M.dig x).length ca) (.slice b (M.dig y).length cb) = w3 := hw3
  generalize boxes w (.slice a (M.dig x).length ca) (.slice b (M.dig y).length cb) = w3 at *
  (with_reducible refine (rvalid_yes a _ ca _ HA.out Hvx.out).mono ?_)
  rintro e w5 ⟨rfl, hb5⟩
  have HC := Lib.hid (And.intro c0 (And.intro c1 (And.intro c2 f2)))
  have d1 := cell_below hb5 c1
  have HB5 := Lib.hid hb5
  clear c0 c1 c2 f2 hb5
  go_wp2_with fail
  (with_reducible refine (rvalid_yes b _ cb _ (HB.out.below HB5.out) Hvy.out).mono ?_)
  rintro e w6 ⟨rfl, hb6⟩
  have hb36 := HB5.out.trans (hb6.mono HB5.out.size)
  have c0 := cell_below hb36 HC.out.1
  have c1 := cell_below hb36 HC.out.2.1
  have HB6 := Lib.hid hb36
  clear d1 hb6 hb36 HB5
  go_wp2_with fail
  (with_reducible refine (rmul_any a b ca cb x y w6 hx200 hy200 (HA.out.below HB6.out) (HB.out.below HB6.out)).mono ?_)
  rintro e w7 ⟨g, zs, rfl, hrz, hend, hb7⟩
  have HF := Lib.hid (rfit_trim g 0 zs zs.length (x * y) w7 hrz hend)
  have hb37 := HB6.out.trans (hb7.mono HB6.out.size)
  have HB7 := Lib.hid hb37
  clear hrz hend hb7 hb37 c0 c1
  go_wp2_with fail
  (with_reducible refine HF.out.mono ?_)
  rintro e w8 ⟨hres, hb8⟩
  have hb38 := HB7.out.trans (hb8.mono HB7.out.size)
  have d2 := cell_below hb38 HC.out.2.2.1
  have g2 := frozen_below hb38 HC.out.2.2.1 HC.out.2.2.2
  have HB8 := Lib.hid (HB3.out.trans (hb38.mono (by omega)))
  have hlt2 : w.heap.size + 1 + 1 < w7.heap.size := by have := HB7.out.size; omega
  clear hb8 hb38
  by_cases h200 : (M.dig (x * y)).length ≤ 200
  · obtain ⟨v, rfl, a7, p7, rfl, hr7, hf7⟩ := hres.ok h200
    have HR7 := Lib.hid hr7
    have HF7 := Lib.hid hf7
    clear hr7 hres hf7
    go_wp2_with fail
    refine bodyPost_ret (v := .tuple #[.agg #[.slice a7 (M.dig (x * y)).length p7], .int .i64 0]) (by simp [results, Tryd.results33, go_sem, d2]) rfl ⟨natRes_ok h200 ⟨a7, p7, rfl, ?_⟩, ?_⟩
    · exact HR7.out.setFresh HF7.out (p := ⟨w.heap.size + 1 + 1, 0, none⟩) hlt2 _
    · exact HB8.out.setCell (p := ⟨w.heap.size + 1 + 1, 0, none⟩) (by simp; omega) _
  · obtain rfl := hres.limit h200
    clear hres
    go_wp2_with fail
    refine bodyPost_ret (v := .tuple #[.agg #[.slice none 0 0], .int .i64 3]) (by simp [results, Tryd.results33, go_sem, d2]) rfl ⟨natRes_limit h200, ?_⟩
    exact HB8.out.setCell (p := ⟨w.heap.size + 1 + 1, 0, none⟩) (by simp; omega) _

/-- **ref01.Mul** of two numbers. -/
theorem rmul_num {u v : Value} {x y : Nat} {w : World} (hx : (M.dig x).length ≤ 200) (hy : (M.dig y).length ≤ 200) (hu : Num w u x) (hv : Num w v y) :
    Calls Tryd.prog 33 #[u, v] w fun e W' => NatRes (x * y) e W' ∧ Below w.heap.size w W' := by
  obtain ⟨a, ca, rfl, ha⟩ := hu
  obtain ⟨b, cb, rfl, hb⟩ := hv
  exact rMul_any a b ca cb x y w hx hy ha hb
end Go.Proofs.YtmejneobfkbgeaaDoor

namespace Go.Proofs.YtmejneobfkbgeaaDoor
open Go Go.RowKit Go.Shelf

theorem dig_len_div (x y : Nat) : (M.dig (x / y)).length ≤ (M.dig x).length := M.dig_len_le.2 (Nat.lt_of_le_of_lt (Nat.div_le_self x y) (M.dig_len_le.1 (Nat.le_refl _)))
theorem dig_len_mod (x y : Nat) : (M.dig (x % y)).length ≤ (M.dig x).length := M.dig_len_le.2 (Nat.lt_of_le_of_lt (Nat.mod_le x y) (M.dig_len_le.1 (Nat.le_refl _)))
theorem dig_len_divmul (x y : Nat) : (M.dig (x / y * y)).length ≤ (M.dig x).length := M.dig_len_le.2 (Nat.lt_of_le_of_lt (Nat.div_mul_le_self x y) (M.dig_len_le.1 (Nat.le_refl _)))

def DivRes (x y : Nat) (e : Ending) (W : World) : Prop :=
  ∃ a1 c1 a2 c2, e = .returned (.tuple #[.agg #[.slice a1 (M.dig (x / y)).length c1], .agg #[.slice a2 (M.dig (x % y)).length c2], .int .i64 0]) ∧ Row W a1 (M.dig (x / y)) c1 ∧ Row W a2 (M.dig (x % y)) c2

/-- Four boxes: two parameters, two results. -/
theorem boxes4 (w : World) (u v : Value) : ∃ w4 : World, w4 = (boxes w u v).alloc (.cells #[.slice none 0 0] 24) ∧ w4.heap.size = w.heap.size + 4 ∧ Below w.heap.size w w4 ∧
    w4.cell? ⟨w.heap.size, 0, none⟩ = some u ∧ w4.cell? ⟨w.heap.size + 1, 0, none⟩ = some v ∧ w4.cell? ⟨w.heap.size + 1 + 1, 0, none⟩ = some (.slice none 0 0) ∧ w4.frozen? ⟨w.heap.size + 1 + 1, 0, none⟩ = false ∧
    w4.cell? ⟨w.heap.size + 1 + 1 + 1, 0, none⟩ = some (.slice none 0 0) ∧ w4.frozen? ⟨w.heap.size + 1 + 1 + 1, 0, none⟩ = false := by
  obtain ⟨h0, h1, h2, h3⟩ := boxes_cells w u v
  have hs := boxes_size w u v
  have h4 := cell_new (boxes w u v) (.slice none 0 0) 24
  have h5 := frozen_new (boxes w u v) (.slice none 0 0) 24
  rw [hs] at h4 h5
  exact ⟨_, rfl, by rw [World.size_alloc, hs], (boxes_below w u v).alloc (by rw [hs]; omega) _, cell_later _ h0, cell_later _ h1, cell_later _ h2, frozen_later _ h2 h3, h4, h5⟩

set_option maxRecDepth 100000 in
set_option maxHeartbeats 1000000 in
theorem divide_any (a b : Option Addr) (ca cb x y : Nat) (w : World) (hy : 0 < y) (hx200 : (M.dig x).length ≤ 200) (hy200 : (M.dig y).length ≤ 200) (hA : Row w a (M.dig x) ca) (hB : Row w b (M.dig y) cb) :
    Calls Tryd.prog 29 #[.agg #[.slice a (M.dig x).length ca], .agg #[.slice b (M.dig y).length cb]] w fun e W' => DivRes x y e W' ∧ Below w.heap.size w W' := by
  have hyl : ¬ (M.dig y).length = 0 := by intro h; have := M.dig_nil.1 (List.length_eq_zero_iff.1 h); omega
  have Hvx := Lib.hid (vld_dig hx200)
  have Hvy := Lib.hid (vld_dig hy200)
  have HA := Lib.hid hA
  have HB := Lib.hid hB
  clear hA hB
  go_enter Tryd.func29, Tryd.ntmps29
  go_wp2_with fail
  obtain ⟨w4, hw4, hs4, hb4, c0, c1, c2, f2, c3, f3⟩ := boxes4 w (.slice a (M.dig x).length ca) (.slice b (M.dig y).length cb)
  rw [show ((((w.alloc (.cells #[.slice a (M.dig x).length ca] 24)).alloc (.cells #[.slice b (M.dig y).length cb] 24)).alloc (.cells #[.slice none 0 0] 24)).alloc (.cells #[.slice none 0 0] 24)) = w4 from hw4.symm]
  have HB4 := Lib.hid hb4
  clear hw4 hb4
  refine (valid_yes a _ ca _ (HA.out.below HB4.out) Hvx.out).mono ?_
  rintro e w5 ⟨rfl, hb5⟩
  have d0 := cell_below hb5 c0
  have d1 := cell_below hb5 c1
  have d2 := cell_below hb5 c2
  have g2 := frozen_below hb5 c2 f2
  have d3 := cell_below hb5 c3
  have g3 := frozen_below hb5 c3 f3
  have HB5 := Lib.hid (HB4.out.trans (hb5.mono HB4.out.size))
  have hs5 := hb5.size
  clear c0 c1 c2 f2 c3 f3 hb5
  go_wp2_with fail
  refine (valid_yes b _ cb _ (HB.out.below HB5.out) Hvy.out).mono ?_
  rintro e w6 ⟨rfl, hb6⟩
  have c0 := cell_below hb6 d0
  have c1 := cell_below hb6 d1
  have c2 := cell_below hb6 d2
  have f2 := frozen_below hb6 d2 g2
  have c3 := cell_below hb6 d3
  have f3 := frozen_below hb6 d3 g3
  have HB6 := Lib.hid (HB5.out.trans (hb6.mono HB5.out.size))
  have hs6 := hb6.size
  clear d0 d1 d2 g2 d3 g3 hb6
  have hyn : (((M.dig y).length : Int) == 0) = false := beq_eq_false_iff_ne.2 (by omega)
  go_wp2_with fail
  refine (divideLimbs_any a b ca cb x y w6 hy hx200 hy200 (HA.out.below HB6.out) (HB.out.below HB6.out)).mono ?_
  rintro e w7 ⟨a1, p1, a2, p2, rfl, hr1, hr2, hf1, hf2, hb7⟩
  have HF1 := Lib.hid hf1
  have HF2 := Lib.hid hf2
  have d2 := cell_below hb7 c2
  have g2 := frozen_below hb7 c2 f2
  have d3 := cell_below hb7 c3
  have g3 := frozen_below hb7 c3 f3
  have HB7 := Lib.hid (HB6.out.trans (hb7.mono HB6.out.size))
  have hs7 := hb7.size
  have HR1 := Lib.hid hr1
  have HR2 := Lib.hid hr2
  clear c0 c1 c2 f2 c3 f3 hb7 hr1 hr2 hf1 hf2
  go_wp2_with fail
  refine bodyPost_ret (v := .tuple #[.agg #[.slice a1 (M.dig (x / y)).length p1], .agg #[.slice a2 (M.dig (x % y)).length p2], .int .i64 0]) (by simp [results, Tryd.results29, go_sem, d2, d3]) rfl ⟨⟨a1, p1, a2, p2, rfl, ?_, ?_⟩, ?_⟩
  · exact (HR1.out.setFresh HF1.out (p := ⟨w.heap.size + 1 + 1, 0, none⟩) (by show w.heap.size + 1 + 1 < _; omega) _).setFresh HF1.out (p := ⟨w.heap.size + 1 + 1 + 1, 0, none⟩) (by show w.heap.size + 1 + 1 + 1 < _; omega) _
  · exact (HR2.out.setFresh HF2.out (p := ⟨w.heap.size + 1 + 1, 0, none⟩) (by show w.heap.size + 1 + 1 < _; omega) _).setFresh HF2.out (p := ⟨w.heap.size + 1 + 1 + 1, 0, none⟩) (by show w.heap.size + 1 + 1 + 1 < _; omega) _
  · exact (HB7.out.setCell (p := ⟨w.heap.size + 1 + 1, 0, none⟩) (by simp; omega) _).setCell (p := ⟨w.heap.size + 1 + 1 + 1, 0, none⟩) (by simp; omega) _

set_option maxRecDepth 100000 in
set_option maxHeartbeats 1000000 in
theorem divide_zero (a b : Option Addr) (ca cb x : Nat) (w : World) (hx200 : (M.dig x).length ≤ 200) (hA : Row w a (M.dig x) ca) (hB : Row w b [] cb) :
    Calls Tryd.prog 29 #[.agg #[.slice a (M.dig x).length ca], .agg #[.slice b 0 cb]] w fun e W' => e = .returned (.tuple #[.agg #[.slice none 0 0], .agg #[.slice none 0 0], .int .i64 4]) ∧ Below w.heap.size w W' := by
  have Hvx := Lib.hid (vld_dig hx200)
  have Hvy : Hid (Vld []) := by have := vld_dig (n := 0) (by rw [M.dig_zero]; simp); rwa [M.dig_zero] at this
  have HA := Lib.hid hA
  have HB := Lib.hid hB
  clear hA hB
  go_enter Tryd.func29, Tryd.ntmps29
  go_wp2_with fail
  obtain ⟨w4, hw4, hs4, hb4, c0, c1, c2, f2, c3, f3⟩ := boxes4 w (.slice a (M.dig x).length ca) (.slice b 0 cb)
  rw [show ((((w.alloc (.cells #[.slice a (M.dig x).length ca] 24)).alloc (.cells #[.slice b 0 cb] 24)).alloc (.cells #[.slice none 0 0] 24)).alloc (.cells #[.slice none 0 0] 24)) = w4 from hw4.symm]
  have HB4 := Lib.hid hb4
  clear hw4 hb4
  refine (valid_yes a _ ca _ (HA.out.below HB4.out) Hvx.out).mono ?_
  rintro e w5 ⟨rfl, hb5⟩
  have d0 := cell_below hb5 c0
  have d1 := cell_below hb5 c1
  have d2 := cell_below hb5 c2
  have g2 := frozen_below hb5 c2 f2
  have d3 := cell_below hb5 c3
  have g3 := frozen_below hb5 c3 f3
  have HB5 := Lib.hid (HB4.out.trans (hb5.mono HB4.out.size))
  have hs5 := hb5.size
  clear c0 c1 c2 f2 c3 f3 hb5
  go_wp2_with fail
  refine (valid_yes b [] cb _ (HB.out.below HB5.out) Hvy.out).mono ?_
  rintro e w6 ⟨rfl, hb6⟩
  have c0 := cell_below hb6 d0
  have c1 := cell_below hb6 d1
  have c2 := cell_below hb6 d2
  have f2 := frozen_below hb6 d2 g2
  have c3 := cell_below hb6 d3
  have f3 := frozen_below hb6 d3 g3
  have HB6 := Lib.hid (HB5.out.trans (hb6.mono HB5.out.size))
  have hs6 := hb6.size
  clear d0 d1 d2 g2 d3 g3 hb6
  go_wp2_with fail
  refine bodyPost_ret (v := .tuple #[.agg #[.slice none 0 0], .agg #[.slice none 0 0], .int .i64 4]) (by simp [results, Tryd.results29, go_sem, c2, c3]) rfl ⟨rfl, ?_⟩
  exact (HB6.out.setCell (p := ⟨w.heap.size + 1 + 1, 0, none⟩) (by simp; omega) _).setCell (p := ⟨w.heap.size + 1 + 1 + 1, 0, none⟩) (by simp; omega) _
end Go.Proofs.YtmejneobfkbgeaaDoor

namespace Go.Proofs.YtmejneobfkbgeaaDoor
open Go Go.RowKit Go.Shelf

/-- **make([]int, 0, n)** -/
theorem wpList_make0 {W : World} {ops : Array Oper} {rest : List Oper} {o : Oper} {a : Act} {Q : Exit → Act → World → Prop} (hgd : o.guard = none) (l c : Operand) (hop : o.op = Op.makeSlice 22 l c)
    {B : Nat} (n : Nat) {L : Int} (hl : a.eval l = .int .i64 0) (hc : a.eval c = .int .i64 L) (hL : L = (n : Int)) (hn : n < 1000000) (hbase : B ≤ W.heap.size)
    (h : ∀ W', Own W' B (.slice (some ⟨W.heap.size, 0, none⟩) 0 n) [] → Below B W W' → wpList Tryd.prog ops Q rest (a.put o.dst (.slice (some ⟨W.heap.size, 0, none⟩) 0 n)) W') : wpList Tryd.prog ops Q (o :: rest) a W := by
  obtain ⟨i0, hi, hz0, hz1, hz2⟩ := info_parts info_int
  refine wpList_make_own W hgd l c 22 hop B 3 i0 (.int .i64 0) 1 Tryd.underlying22 hi hz0 hz1 .i64 .i64 L n hl hc hL (by rw [hz2]; omega) (by unfold maxLen; omega) hbase ?_
  intro W' hown hgrow
  exact h W' hown ((Below.refl B W).grown hgrow hbase (fun k e => by cases e))

theorem M.rtimes_step {V P q s n A : Int} (h : V + P * q = A * n) : (V + P * ((s * n + q) % 16777216)) + P * 16777216 * ((s * n + q) / 16777216) = (A + P * s) * n := by
  have h1 := M.pow_split P (s * n + q)
  rw [Int.mul_add] at h1
  rw [Int.add_mul, Int.mul_assoc P s n]
  omega

def TmRel (w w2 : World) (x n : Nat) (l c i : Value) (W : World) : Prop :=
  ∃ (k : Nat) (zs : List Int) (q : Int) (a : Option Addr) (cap : Nat), l = .slice a zs.length cap ∧ c = .int .i64 q ∧ i = .int .i64 (k : Int) ∧ k ≤ (M.dig x).length ∧ zs.length = k ∧ M.Lim zs ∧ 0 ≤ q ∧ q < 16777216 ∧
    M.val zs + 16777216 ^ k * q = M.val ((M.dig x).take k) * n ∧ Own W (w.heap.size + 2) (.slice a zs.length cap) zs ∧ Below w2.heap.size w2 W

end Go.Proofs.YtmejneobfkbgeaaDoor

namespace Go.Proofs.YtmejneobfkbgeaaDoor
open Go Go.RowKit Go.Shelf

theorem Own.nilCap {W : World} {B n cap : Nat} {a : Option Addr} {zs : List Int} (h : Own W B (.slice a n cap) zs) : a = none → cap = 0 := by
  intro e
  rcases h.parts with ⟨e2, _⟩ | ⟨g, c, e2, _⟩
  · cases e2; rfl
  · cases e2; cases e

theorem wp_appRow {W : World} {o : Oper} {a : Act} {K : Act → World → Prop} {Q : Exit → Act → World → Prop} (s x : Operand) (ho : o.op = .call { callee := .builtin .append, args := #[s, x], argTypes := #[22, 22] })
    {B : Nat} {v : Value} {zs ys : List Int} (hs : a.eval s = v) (hown : Own W B v zs) {ad : Option Addr} {cap : Nat} (hx : a.eval x = .slice ad ys.length cap) (hr : Row W ad ys cap) (hnil : ad = none → cap = 0)
    (hl : zs.length + ys.length < 1000000) (hbase : B ≤ W.heap.size)
    (h : ∀ a' cap' W', Own W' B (.slice a' (zs ++ ys).length cap') (zs ++ ys) → Below B W W' → K (a.put o.dst (.slice a' (zs.length + ys.length) cap')) W') : Oper.wp Tryd.prog o a W K Q := by
  obtain ⟨i0, hi, hz0, hz1, hz2⟩ := info_parts info_int
  cases ad with
  | none =>
    have hy : ys = [] := by
      cases ys with
      | nil => rfl
      | cons y ys =>
        obtain ⟨b, off, e, _⟩ := hr.el 0 (by simp)
        cases e
    subst hy
    obtain rfl := hnil rfl
    have hrun := run_append_owned_none (P := Tryd.prog) W B 22 o.type 3 i0 1 Tryd.underlying22 hi v zs.length (zs.map (Value.int .i64)) hown
    obtain ⟨a', cap', rfl, _⟩ := hown.row
    unfold Oper.wp execOp
    simp only [ho, resolve, invoke, builtin, Sem.run_bind, Sem.run_pure, Result.andThen_ok, List.map_toArray, List.map_cons, List.map_nil, hs, hx, List.length_nil, hrun]
    have := h a' cap' W (by simpa using hown) (Below.refl _ _)
    exact (show K (a.put o.dst (.slice a' zs.length cap')) W by simpa using this)
  | some ad =>
    refine wp_append_own W s x 22 ho B 3 i0 (.int .i64 0) 1 8 Tryd.underlying22 hi hz0 hz1 hz2 rfl (by decide) v zs.length (zs.map (Value.int .i64)) hs hown ad ys.length cap (ys.map (Value.int .i64)) hx (by simp) ?_ ?_ (by unfold maxLen; omega) (by omega) hbase ?_
    · intro j u hj
      rw [List.getElem?_map] at hj
      by_cases hlt : j < ys.length
      · obtain ⟨b, off, e, hc⟩ := hr.el j hlt
        cases e
        rw [List.getElem?_eq_getElem hlt] at hj
        simp only [Option.map_some, Option.some.injEq] at hj
        subst hj
        rw [M.el, List.getElem?_eq_getElem hlt] at hc
        by_cases hj0 : j = 0
        · subst hj0; simpa [Addr.add] using hc
        · simpa [Addr.add, hj0] using hc
      · rw [List.getElem?_eq_none (by omega)] at hj; simp at hj
    · intro u hu
      obtain ⟨z, _, rfl⟩ := List.mem_map.1 hu
      rfl
    · intro v' W' hown' hgrow _
      have ho2 : Own W' B v' (zs ++ ys) := by unfold Own; rw [List.length_append, List.map_append]; exact hown'
      have hB2 : Below B W W' := (Below.refl B W).grown hgrow hbase (fun k e => (World.ownsRow.lt hown k e).1)
      obtain ⟨a', cap', rfl, _⟩ := ho2.row
      have := h a' cap' W' ho2 hB2
      simpa using this

/-- **append(s, t...)**, s owned, t any slice, nil too. -/
theorem wpList_appRow {W : World} {ops : Array Oper} {rest : List Oper} {o : Oper} {a : Act} {Q : Exit → Act → World → Prop} (hgd : o.guard = none) (s x : Operand)
    (ho : o.op = .call { callee := .builtin .append, args := #[s, x], argTypes := #[22, 22] }) {B : Nat} {v : Value} {zs ys : List Int} (hs : a.eval s = v) (hown : Own W B v zs)
    {ad : Option Addr} {cap : Nat} (hx : a.eval x = .slice ad ys.length cap) (hr : Row W ad ys cap) (hnil : ad = none → cap = 0) (hl : zs.length + ys.length < 1000000) (hbase : B ≤ W.heap.size)
    (h : ∀ a' cap' W', Own W' B (.slice a' (zs ++ ys).length cap') (zs ++ ys) → Below B W W' → wpList Tryd.prog ops Q rest (a.put o.dst (.slice a' (zs.length + ys.length) cap')) W') : wpList Tryd.prog ops Q (o :: rest) a W :=
  wpList_plain hgd fun _ hK => wp_appRow s x ho hs hown hx hr hnil hl hbase fun a' c' W' h1 h2 => hK _ _ (h a' c' W' h1 h2)

/-- .. as a step of a region that draws its order. -/
theorem step_appRow {W : World} {ops : Array Oper} {o : Oper} {a : Act} {K : Act → World → Prop} {Q : Exit → Act → World → Prop} {E : Prop} (hgd : o.guard = none) (s x : Operand)
    (ho : o.op = .call { callee := .builtin .append, args := #[s, x], argTypes := #[22, 22] }) {B : Nat} {v : Value} {zs ys : List Int} (hs : a.eval s = v) (hown : Own W B v zs)
    {ad : Option Addr} {cap : Nat} (hx : a.eval x = .slice ad ys.length cap) (hr : Row W ad ys cap) (hnil : ad = none → cap = 0) (hl : zs.length + ys.length < 1000000) (hbase : B ≤ W.heap.size)
    (h : ∀ a' cap' W', Own W' B (.slice a' (zs ++ ys).length cap') (zs ++ ys) → Below B W W' → K (a.put o.dst (.slice a' (zs.length + ys.length) cap')) W') :
    if Region.wanted o (yielded ops a.tmps) = true then Oper.wp Tryd.prog o a W K Q else E := by
  have hw : Region.wanted o (yielded ops a.tmps) = true := by simp [Region.wanted, hgd]
  rw [if_pos hw]
  exact wp_appRow s x ho hs hown hx hr hnil hl hbase h
end Go.Proofs.YtmejneobfkbgeaaDoor

namespace Go.Proofs.YtmejneobfkbgeaaDoor
open Go Go.RowKit Go.Shelf

theorem M.less_step {V P c A B ex ey d c2 : Int} (h : V - P * c = A - B) (hd : d - 16777216 * c2 = ex - c - ey) : (V + P * d) - P * 16777216 * c2 = (A + P * ex) - (B + P * ey) := by
  have h1 : P * (d - 16777216 * c2) = P * (ex - c - ey) := by rw [hd]
  rw [Int.mul_sub, Int.mul_sub, Int.mul_sub, ← Int.mul_assoc] at h1
  omega

/-- In the last place nothing is borrowed. -/
theorem M.less_last {zs : List Int} {x y k m : Nat} {c d : Int} (hm : (dig x).length = m) (hk : k + 1 = m) (hyx : y ≤ x) (hlim : Lim (zs.take k)) (hl : zs.length = m)
    (hv : val (zs.take k) - 16777216 ^ k * c = val ((dig x).take k) - val ((dig y).take k)) (hd : d = el (dig x) k - c - el (dig y) k) : 0 ≤ d := by
  have h1 := val_take_succ' (dig x) k
  have h2 := val_take_succ' (dig y) k
  have hyl : (dig y).length ≤ m := by rw [← hm]; exact dig_len_le.2 (Nat.lt_of_le_of_lt hyx (dig_len_le.1 (Nat.le_refl _)))
  rw [List.take_of_length_le (by omega), val_dig] at h1
  rw [List.take_of_length_le (by omega), val_dig] at h2
  have h3 := val_lt hlim
  rw [List.length_take, Nat.min_eq_left (by omega)] at h3
  have hP := pow_pos k
  rcases Int.lt_or_le d 0 with hneg | hpos
  · exfalso
    have h4 : 16777216 ^ k * d ≤ 16777216 ^ k * (-1) := Int.mul_le_mul_of_nonneg_left (by omega) (by omega)
    rw [hd, Int.mul_sub, Int.mul_sub] at h4
    omega
  · exact hpos

theorem Own.setL {W : World} {B g L cap : Nat} {zs : List Int} (h : Own W B (.slice (some ⟨g, 0, none⟩) L cap) zs) (j : Nat) (u : Int) : Own (W.setCell ⟨g, j, none⟩ (.int .i64 u)) B (.slice (some ⟨g, 0, none⟩) L cap) (zs.set j u) := by
  have hl := h.len
  subst hl
  exact h.set j u

def LsRel (w w3 : World) (x y g cap : Nat) (i : Value) (W : World) : Prop :=
  ∃ (k : Nat) (zs : List Int) (c : Int), i = .int .i64 (k : Int) ∧ k ≤ (M.dig x).length ∧ zs.length = (M.dig x).length ∧ M.Lim (zs.take k) ∧ 0 ≤ c ∧ c ≤ 1 ∧ (k < (M.dig x).length → M.el zs k = M.el (M.dig x) k - c) ∧ (∀ j : Nat, k < j → M.el zs j = M.el (M.dig x) j) ∧
    (k = (M.dig x).length → c = 0) ∧ M.val (zs.take k) - 16777216 ^ k * c = M.val ((M.dig x).take k) - M.val ((M.dig y).take k) ∧ Own W (w.heap.size + 3) (.slice (some ⟨g, 0, none⟩) (M.dig x).length cap) zs ∧ Below w3.heap.size w3 W

theorem ls_pos {w w3 W : World} {x y g cap k : Nat} {zs : List Int} {c d : Int} (hk : k < (M.dig x).length) (hlen : zs.length = (M.dig x).length) (hlim : M.Lim (zs.take k)) (hrest : ∀ j : Nat, k < j → M.el zs j = M.el (M.dig x) j)
    (hval : M.val (zs.take k) - 16777216 ^ k * c = M.val ((M.dig x).take k) - M.val ((M.dig y).take k)) (hd : d = M.el (M.dig x) k - c - M.el (M.dig y) k) (h0 : 0 ≤ d) (h1 : d < 16777216)
    (hown : Own W (w.heap.size + 3) (.slice (some ⟨g, 0, none⟩) (M.dig x).length cap) zs) (hB : Below w3.heap.size w3 W) (hg : w3.heap.size ≤ g) :
    LsRel w w3 x y g cap (.int .i64 ((k : Int) + 1)) (W.setCell ⟨g, k, none⟩ (.int .i64 d)) := by
  have hkl : k < zs.length := by omega
  have ht := M.take_set_succ zs k d hkl
  refine ⟨k + 1, zs.set k d, 0, by go_num, by omega, by rw [List.length_set]; exact hlen, ?_, by omega, by omega, fun _ => ?_, fun j hj => ?_, fun _ => rfl, ?_, hown.setL k d, hB.setCell (p := ⟨g, k, none⟩) hg _⟩
  · rw [ht]; exact hlim.append (M.Lim.cons h0 h1 M.Lim.nil)
  · rw [M.el_set _ _ _ _ hkl, if_neg (by omega), hrest _ (by omega)]; omega
  · rw [M.el_set _ _ _ _ hkl, if_neg (by omega)]; exact hrest j (by omega)
  · have hl : (zs.take k).length = k := by rw [List.length_take]; omega
    rw [ht, M.val_append, hl, M.val_take_succ', M.val_take_succ']
    simp only [M.val, Int.mul_zero, Int.add_zero, Int.sub_zero]
    have := M.less_step (d := d) (c2 := 0) (ex := M.el (M.dig x) k) (ey := M.el (M.dig y) k) hval (by omega)
    rwa [Int.mul_zero, Int.sub_zero] at this

theorem ls_neg {w w3 W : World} {x y g cap k : Nat} {zs : List Int} {c d : Int} (hk : k + 1 < (M.dig x).length) (hlen : zs.length = (M.dig x).length) (hlim : M.Lim (zs.take k)) (hrest : ∀ j : Nat, k < j → M.el zs j = M.el (M.dig x) j)
    (hval : M.val (zs.take k) - 16777216 ^ k * c = M.val ((M.dig x).take k) - M.val ((M.dig y).take k)) (hd : d = M.el (M.dig x) k - c - M.el (M.dig y) k) (h0 : d < 0) (h1 : -16777216 ≤ d)
    (hown : Own W (w.heap.size + 3) (.slice (some ⟨g, 0, none⟩) (M.dig x).length cap) zs) (hB : Below w3.heap.size w3 W) (hg : w3.heap.size ≤ g) :
    LsRel w w3 x y g cap (.int .i64 ((k : Int) + 1)) (((W.setCell ⟨g, k, none⟩ (.int .i64 d)).setCell ⟨g, k, none⟩ (.int .i64 (d + 16777216))).setCell ⟨g, k + 1, none⟩ (.int .i64 (M.el (M.dig x) (k + 1) - 1))) := by
  have hkl : k < zs.length := by omega
  have ho := ((hown.setL k d).setL k (d + 16777216)).setL (k + 1) (M.el (M.dig x) (k + 1) - 1)
  rw [List.set_set] at ho
  have ht : ((zs.set k (d + 16777216)).set (k + 1) (M.el (M.dig x) (k + 1) - 1)).take (k + 1) = zs.take k ++ [d + 16777216] := by
    rw [List.take_set_of_le (Nat.le_refl _)]; exact M.take_set_succ zs k _ hkl
  have hk1 : k + 1 < (zs.set k (d + 16777216)).length := by rw [List.length_set]; omega
  refine ⟨k + 1, _, 1, by go_num, by omega, by rw [List.length_set, List.length_set]; exact hlen, ?_, by omega, by omega, fun _ => ?_, fun j hj => ?_, fun h => by omega, ?_, ho, ((hB.setCell (p := ⟨g, k, none⟩) hg _).setCell (p := ⟨g, k, none⟩) hg _).setCell (p := ⟨g, k + 1, none⟩) hg _⟩
  · rw [ht]; exact hlim.append (M.Lim.cons (by omega) (by omega) M.Lim.nil)
  · rw [M.el_set _ _ _ _ hk1, if_pos rfl]
  · rw [M.el_set _ _ _ _ hk1, if_neg (by omega), M.el_set _ _ _ _ hkl, if_neg (by omega)]; exact hrest j (by omega)
  · have hl : (zs.take k).length = k := by rw [List.length_take]; omega
    rw [ht, M.val_append, hl, M.val_take_succ', M.val_take_succ']
    simp only [M.val, Int.mul_zero, Int.add_zero]
    have := M.less_step (d := d + 16777216) (c2 := 1) (ex := M.el (M.dig x) k) (ey := M.el (M.dig y) k) hval (by omega)
    rw [Int.mul_one] at this
    rw [Int.pow_succ, Int.mul_one]
    exact this

def LessPost (w : World) (n : Nat) (e : Ending) (W : World) : Prop :=
  (∃ a c, e = .returned (.agg #[.slice a (M.dig n).length c]) ∧ Row W a (M.dig n) c ∧ (a = none → c = 0) ∧ Fresh (w.heap.size + 1) a (M.dig n)) ∧ Below w.heap.size w W

end Go.Proofs.YtmejneobfkbgeaaDoor

namespace Go.Proofs.YtmejneobfkbgeaaDoor.M

/-- The number that the limbs from k on make. -/
def xs (x k : Nat) : Nat := (val ((dig x).drop k)).toNat
theorem xs_int (x k : Nat) : ((xs x k : Nat) : Int) = val ((dig x).drop k) := Int.toNat_of_nonneg (val_nonneg ((lim_dig x).drop k))
theorem xs_zero (x : Nat) : xs x 0 = x := by
  have := xs_int x 0
  rw [List.drop_zero, val_dig] at this
  omega
theorem xs_end {x k : Nat} (h : (dig x).length ≤ k) : xs x k = 0 := by
  have := xs_int x k
  rw [List.drop_of_length_le h] at this
  simp only [val] at this
  omega
theorem xs_step {x k : Nat} (h : k < (dig x).length) : xs x k = 16777216 * xs x (k + 1) + (el (dig x) k).toNat := by
  have h1 := xs_int x k
  have h2 := xs_int x (k + 1)
  have h3 := (lim_dig x).get k
  rw [val_drop_succ _ _ h, ← h2] at h1
  omega
theorem div_step {X X' y d : Nat} (hy : 0 < y) (hd : d < 16777216) (hX : X = 16777216 * X' + d) :
    X / y = 16777216 * (X' / y) + (d + 16777216 * (X' % y)) / y ∧ X % y = (d + 16777216 * (X' % y)) % y ∧ (d + 16777216 * (X' % y)) / y < 16777216 := by
  have h1 := Nat.div_add_mod X' y
  have h2 := Nat.mod_lt X' hy
  have h3 : X = y * (16777216 * (X' / y)) + (d + 16777216 * (X' % y)) := by
    rw [Nat.mul_left_comm]
    omega
  refine ⟨?_, ?_, ?_⟩
  · rw [h3, Nat.mul_add_div hy]
  · rw [h3, Nat.mul_add_mod]
  · rw [Nat.div_lt_iff_lt_mul hy]; omega
theorem q_step {zs : List Int} {k : Nat} (u : Int) (hk : k < zs.length) : val ((zs.set k u).drop k) = u + 16777216 * val (zs.drop (k + 1)) := by
  rw [val_drop_succ _ k (by rw [List.length_set]; exact hk), el_set _ _ _ _ hk, if_pos rfl, List.drop_set_of_lt (by omega)]
theorem rest_dig {d : Int} {r : Nat} (h0 : 0 ≤ d) (h1 : d < 16777216) : trimL ([d] ++ dig r) = dig (d.toNat + 16777216 * r) := by
  refine trim_dig (Lim.cons h0 h1 (lim_dig r)) ?_
  simp only [List.singleton_append, val, val_dig]
  omega
/-- A number below y times 16777216 has at most one limb more than y. -/
theorem rest_len {d : Int} {r y k : Nat} (h1 : d < 16777216) (hr : r < y) (hy : (dig y).length ≤ k) : (dig (d.toNat + 16777216 * r)).length ≤ k + 1 := by
  rw [dig_len_le] at *
  rw [Nat.pow_succ]
  omega
end Go.Proofs.YtmejneobfkbgeaaDoor.M

namespace Go.Proofs.YtmejneobfkbgeaaDoor
open Go Go.RowKit Go.Shelf

/-- Quotient and rest, in blocks from B on. -/
def RDivRes (B x y : Nat) (e : Ending) (W : World) : Prop :=
  ∃ a1 c1 a2 c2, e = .returned (.tuple #[.agg #[.slice a1 (M.dig (x / y)).length c1], .agg #[.slice a2 (M.dig (x % y)).length c2], .int .i64 0]) ∧ Row W a1 (M.dig (x / y)) c1 ∧ Row W a2 (M.dig (x % y)) c2 ∧ Fresh B a1 (M.dig (x / y)) ∧ Fresh B a2 (M.dig (x % y))

/-- What holds at the head of Divide's loop: the quotient's limbs from k on, and the rest. -/
structure RdSt (wb : World) (x y p8 g k : Nat) (zs : List Int) (ra : Option Addr) (rc : Nat) (W : World) : Prop where
  few : k ≤ (M.dig x).length
  len : zs.length = (M.dig x).length
  lim : M.Lim zs
  quo : M.val (zs.drop k) = ((M.xs x k / y : Nat) : Int)
  own : Own W wb.heap.size (.slice (some ⟨g, 0, none⟩) (M.dig x).length (M.dig x).length) zs
  cell : W.cell? ⟨p8, 0, none⟩ = some (.slice ra (M.dig (M.xs x k % y)).length rc)
  free : W.frozen? ⟨p8, 0, none⟩ = false
  row : Row W ra (M.dig (M.xs x k % y)) rc
  fresh : Fresh (p8 + 1) ra (M.dig (M.xs x k % y))
  nilc : ra = none → rc = 0
  below : Below wb.heap.size wb W
  bnd : wb.heap.size ≤ g ∧ g < p8

def RdRel (wb : World) (x y p8 g : Nat) (i : Value) (W : World) : Prop :=
  ∃ (k : Nat) (zs : List Int) (ra : Option Addr) (rc : Nat), i = .int .i64 ((k : Int) - 1) ∧ RdSt wb x y p8 g k zs ra rc W

theorem Row.storedAt {w : World} {a : Option Addr} {zs : List Int} {cap : Nat} (h : Row w a zs cap) {p : Addr} {s : Option Addr} {n c : Nat} (hp : w.cell? p = some (.slice s n c)) (u : Value) : Row (w.setCell p u) a zs cap :=
  ⟨h.room, h.most, fun j hj => by
    obtain ⟨b, off, e, hc⟩ := h.el j hj
    exact ⟨b, off, e, (World.cell?_setCell_other _ _ _ _ (by rintro rfl; rw [hp] at hc; cases hc)).trans hc⟩⟩
theorem rowAt_len {W : World} {B n cap : Nat} {a : Option Addr} {zs : List Int} (h : Own W B (.slice a n cap) zs) (hl : zs.length = n) : Row W a zs cap := by
  subst hl; exact h.rowAt
theorem Own.one {W : World} {B : Nat} (d : Int) (hB : B ≤ W.heap.size) : Own (W.alloc (.cells #[.int .i64 d] 3)) B (.slice (some ⟨W.heap.size, 0, none⟩) 1 1) [d] := by
  have := World.ownsRow_lit (base := B) (e := 3) (size := 1) W #[.int .i64 d] 1 hB (by decide) rfl
  unfold Own
  simpa using this

end Go.Proofs.YtmejneobfkbgeaaDoor

namespace Go.Proofs.YtmejneobfkbgeaaDoor
open Go Go.RowKit Go.Shelf

set_option maxRecDepth 100000 in
set_option maxHeartbeats 1000000 in
theorem rof_any (N : Nat) (w : World) (hN : N ≤ 9223372036854775807) :
    Calls Tryd.prog 15 #[.int .i64 (N : Int)] w fun e W' => ∃ v, e = .returned (.tuple #[v, .int .i64 0]) ∧ Num W' v N ∧ Below w.heap.size w W' := by
  have HL := Lib.hid (M.dig_len_le.2 (Nat.lt_of_le_of_lt hN (by decide)) : (M.dig N).length ≤ 3)
  have c0 := cell_of_new w (.slice none 0 0) 24
  go_enter Tryd.func15, Tryd.ntmps15
  go_wp2
  go_loopw [0, 4] (fun t v wr => OfRel w N t v wr) (fun t _ _ => (intOf t).toNat)
  case atStart => exact ⟨N, [], rfl, Nat.le_refl _, Own.nil _ _, rfl, c0.1, c0.2, (Below.refl _ w).alloc (Nat.le_refl _) _⟩
  case round =>
    obtain ⟨m, pre, rfl, hm, hown, hdig, hc0, hf0, hB⟩ := hrel
    obtain ⟨a, cap, rfl, hr⟩ := hown.row
    have HR := Lib.hid hr
    clear hr
    have HD := Lib.hid hdig
    clear hdig
    by_cases h0 : m = 0
    · subst h0
      have HE := Lib.hid (show M.dig N = pre by rw [HD.out, M.dig_zero, List.append_nil])
      go_wp2
      refine bodyPost_ret (v := .tuple #[.agg #[.slice a pre.length cap], .int .i64 0]) (by simp [results, Tryd.results15, go_sem, hc0]) rfl ⟨.agg #[.slice a pre.length cap], rfl, ?_, hB.setCell (p := ⟨w.heap.size, 0, none⟩) (Nat.le_refl _) _⟩
      refine Own.num (B := w.heap.size + 1) ?_
      rw [HE.out]
      exact hown.setBelow (Nat.lt_succ_self _) _
    · have hm1 : 0 < m := by omega
      clear h0
      have hpre : pre.length < 1000000 := by have := HL.out; rw [HD.out, List.length_append] at this; omega
      have hsz := hB.size
      go_wp2_with (at_builtin; refine wpList_app1 rfl _ _ rfl rfl (hown.alloc _) rfl (cell_new _ _ _) hpre (by simp; omega) ?_; intro a' cap' W' hown' hb')
      go_roundw
      case rel =>
        refine ⟨m / 16777216, pre ++ [((m % 16777216 : Nat) : Int)], by go_num, by omega, by simpa using hown', by rw [HD.out, M.dig_pos (by omega), List.append_assoc]; rfl, (hb'.cell (p := ⟨w.heap.size, 0, none⟩) (by simp)).trans (cell_later _ hc0), (hb'.frozen (p := ⟨w.heap.size, 0, none⟩) (by simp)).trans (frozen_later _ hc0 hf0), hB.trans (((Below.refl _ wr).alloc hsz _).trans (hb'.mono (by omega)))⟩
      case measure => simp [intOf]; omega
end Go.Proofs.YtmejneobfkbgeaaDoor

namespace Go.Proofs.YtmejneobfkbgeaaDoor.M
theorem dig_len_add {x y k : Nat} (hx : (dig x).length ≤ k) (hy : (dig y).length ≤ k) : (dig (x + y)).length ≤ k + 1 := by
  rw [dig_len_le] at *
  rw [Nat.pow_succ]; omega
theorem dig_len_mul {x y j k : Nat} (hx : (dig x).length ≤ j) (hy : (dig y).length ≤ k) : (dig (x * y)).length ≤ j + k := by
  rw [dig_len_le] at *
  rw [Nat.pow_add]
  exact Nat.mul_lt_mul_of_lt_of_le hx (Nat.le_of_lt hy) (Nat.pow_pos (by decide))
theorem dig_len_mono {x y : Nat} (h : x ≤ y) : (dig x).length ≤ (dig y).length := dig_len_le.2 (Nat.lt_of_le_of_lt h (dig_len_le.1 (Nat.le_refl _)))
end Go.Proofs.YtmejneobfkbgeaaDoor.M

namespace Go.Proofs.YtmejneobfkbgeaaDoor
open Go Go.RowKit Go.Shelf

structure RpSt (w : World) (p x : Nat) (a : Option Addr) (ca : Nat) (z : Nat) (o : Option Addr) (co : Nat) (W : World) : Prop where
  cA : W.cell? ⟨w.heap.size, 0, none⟩ = some (.slice a (M.dig x).length ca)
  cR : W.cell? ⟨w.heap.size + 1, 0, none⟩ = some (.slice none 0 0)
  fR : W.frozen? ⟨w.heap.size + 1, 0, none⟩ = false
  cO : W.cell? ⟨p, 0, none⟩ = some (.slice o (M.dig z).length co)
  fO : W.frozen? ⟨p, 0, none⟩ = false
  rA : Row W a (M.dig x) ca
  rO : Row W o (M.dig z) co
  far : w.heap.size + 1 < p
  below : Below w.heap.size w W
theorem RpSt.keep {w : World} {p x : Nat} {a : Option Addr} {ca z : Nat} {o : Option Addr} {co : Nat} {W W' : World} (h : RpSt w p x a ca z o co W) (hb : Below W.heap.size W W') : RpSt w p x a ca z o co W' :=
  ⟨cell_below hb h.cA, cell_below hb h.cR, frozen_below hb h.cR h.fR, cell_below hb h.cO, frozen_below hb h.cO h.fO, h.rA.below hb, h.rO.below hb, h.far, h.below.trans (hb.mono h.below.size)⟩
theorem RpSt.set {w : World} {p x : Nat} {a : Option Addr} {ca z : Nat} {o : Option Addr} {co : Nat} {W : World} (h : RpSt w p x a ca z o co W) {z' : Nat} {o' : Option Addr} {co' : Nat} (hr : Row W o' (M.dig z') co') :
    RpSt w p x a ca z' o' co' (W.setCell ⟨p, 0, none⟩ (.slice o' (M.dig z').length co')) := by
  have hp := h.far
  exact ⟨(cell_other _ (show w.heap.size ≠ p by omega)).trans h.cA, (cell_other _ (show w.heap.size + 1 ≠ p by omega)).trans h.cR, (World.frozen?_setCell _ _ _ _).trans h.fR, World.cell?_setCell_same _ _ _ h.cO, (World.frozen?_setCell _ _ _ _).trans h.fO,
    h.rA.storedAt h.cO _, hr.storedAt h.cO _, hp, h.below.setCell (p := ⟨p, 0, none⟩) (by show w.heap.size ≤ p; omega) _⟩

theorem cmp_one {x : Nat} (h : x ≠ 1) : (Lib.compareInt (x : Int) ((1 : Nat) : Int) == 0) = false := by
  rw [beq_eq_false_iff_ne]
  unfold Lib.compareInt
  split
  · decide
  · split
    · decide
    · omega
theorem cmp_eq (x : Nat) : (Lib.compareInt (x : Int) (x : Int)) = 0 := by
  unfold Lib.compareInt
  rw [if_neg (by omega), if_neg (by omega)]

end Go.Proofs.YtmejneobfkbgeaaDoor

namespace Go.Proofs.YtmejneobfkbgeaaDoor
open Go Go.RowKit Go.Shelf

theorem data_len (s : ByteArray) : s.data.toList.length = s.size := rfl
theorem toList_loop (s : ByteArray) (n : Nat) : ∀ (i : Nat) (r : List UInt8), s.size - i = n → ByteArray.toList.loop s i r = r.reverse ++ s.data.toList.drop i := by
  induction n with
  | zero =>
    intro i r h
    have := data_len s
    rw [ByteArray.toList.loop, if_neg (by omega), List.drop_of_length_le (by omega), List.append_nil]
  | succ n ih =>
    intro i r h
    have h0 := data_len s
    have hl : i < s.data.toList.length := by omega
    rw [ByteArray.toList.loop, if_pos (by omega), ih (i + 1) _ (by omega), List.reverse_cons, List.append_assoc, List.drop_eq_getElem_cons hl]
    have e : s.get! i = s.data.toList[i] := by
      cases s with | mk d =>
      have hd : i < d.size := hl
      simp [ByteArray.get!, hd]
    rw [e]; rfl
theorem toList_data (s : ByteArray) : s.toList = s.data.toList := by
  rw [ByteArray.toList, toList_loop s s.size 0 [] (by omega)]; simp

/-- Is the byte a decimal digit? -/
def digB (c : UInt8) : Bool := decide (48 ≤ c.toNat) && decide (c.toNat ≤ 57)
/-- The texts that Parse takes. -/
def decB (s : ByteArray) : Bool := s.data.toList.all digB && (decide (s.data.toList = [48]) || (decide (s.data.toList ≠ []) && decide (s.data.toList.head? ≠ some 48)))

theorem dec_bad {s : ByteArray} {k : Nat} (h : k < s.size) (hb : digB s[k] = false) : decB s = false := by
  unfold decB
  have : s.data.toList.all digB = false := by
    rw [List.all_eq_false]
    refine ⟨s[k], ?_, by simp [hb]⟩
    exact List.getElem_mem (l := s.data.toList) (h := h)
  rw [this]; rfl
theorem dec_zero {s : ByteArray} (h : s.toList = [48]) : decB s = true := by
  rw [toList_data] at h
  unfold decB; rw [h]; rfl
theorem dec_none {s : ByteArray} (h : s.toList = []) : decB s = false := by
  rw [toList_data] at h
  unfold decB; rw [h]; rfl
theorem dec_else {s : ByteArray} (h1 : ¬ s.toList = [48]) (h0 : 0 < s.size) (hall : s.data.toList.all digB = true) : (s.toList == [48] || !s.toList.isEmpty && (s[0].toNat : Int) != 48) = decB s := by
  have e1 : (s.toList == [48]) = false := by rw [beq_eq_false_iff_ne]; exact h1
  rw [toList_data] at e1 h1 ⊢
  have hl : 0 < s.data.toList.length := h0
  have hne : s.data.toList ≠ [] := by intro e; rw [e] at hl; simp at hl
  have hh : s.data.toList.head? = some s[0] := by
    rw [List.head?_eq_getElem?, List.getElem?_eq_getElem hl]; rfl
  unfold decB
  rw [e1, hall, decide_eq_false h1, decide_eq_true hne, hh]
  have e2 : s.data.toList.isEmpty = false := by rw [List.isEmpty_eq_false_iff]; exact hne
  rw [e2]
  by_cases hc : s[0] = 48
  · have : ((s[0].toNat : Int) != 48) = false := by rw [hc]; rfl
    rw [this, hc]; rfl
  · have : ((s[0].toNat : Int) != 48) = true := by
      rw [bne_iff_ne]
      intro e
      apply hc
      apply UInt8.toNat_inj.1
      have h48 : (48 : UInt8).toNat = 48 := rfl
      rw [h48]; omega
    rw [this, decide_eq_true (by intro e; exact hc (Option.some.inj e))]; rfl
theorem dig_snocB (s : ByteArray) (k : Nat) (h : k < s.size) (ha : (s.data.toList.take k).all digB = true) (hd : digB s[k] = true) : (s.data.toList.take (k + 1)).all digB = true := by
  have hl : k < s.data.toList.length := h
  rw [List.take_succ_eq_append_getElem hl, List.all_append, ha]
  simp only [List.all_cons, List.all_nil, Bool.and_true, Bool.true_and]
  exact hd

/-- The value of a text of digits. -/
def dval (l : List UInt8) : Nat := l.foldl (fun v c => v * 10 + (c.toNat - 48)) 0
theorem dval_snoc (s : ByteArray) (k : Nat) (h : k < s.size) : dval (s.data.toList.take (k + 1)) = dval (s.data.toList.take k) * 10 + (s[k].toNat - 48) := by
  have hl : k < s.data.toList.length := h
  unfold dval
  rw [List.take_succ_eq_append_getElem hl, List.foldl_append]; rfl

def PaRel (w : World) (s : ByteArray) (l i : Value) (W : World) : Prop :=
  ∃ (k : Nat) (a : Option Addr) (cap : Nat) (zs : List Int), i = .int .i64 (k : Int) ∧ k ≤ s.size ∧ l = .slice a zs.length cap ∧ Own W (w.heap.size + 1) (.slice a zs.length cap) zs ∧ M.Lim zs ∧ M.val zs = dval (s.data.toList.take k) ∧ zs.length ≤ k ∧ Below (w.heap.size + 1) (w.alloc (.cells #[.slice none 0 0] 24)) W

end Go.Proofs.YtmejneobfkbgeaaDoor

namespace Go.Proofs.YtmejneobfkbgeaaDoor
open Go Go.RowKit Go.Shelf

set_option maxRecDepth 100000 in
set_option maxHeartbeats 1000000 in
/-- **nat.Power**, out of range. -/
theorem power_range (a : Option Addr) (ca x : Nat) (n : Int) (w : World) (hx : (M.dig x).length ≤ 200) (hn : n < 0 ∨ 4800 < n) (hR : Row w a (M.dig x) ca) :
    Calls Tryd.prog 73 #[.agg #[.slice a (M.dig x).length ca], .int .i64 n] w fun e W' => e = .returned (.tuple #[.agg #[.slice none 0 0], .int .i64 2]) ∧ Below w.heap.size w W' := by
  have Hv := Lib.hid (vld_dig hx)
  have hB2 := boxes1_below w (.slice a (M.dig x).length ca)
  have hs2 := boxes1_size w (.slice a (M.dig x).length ca)
  obtain ⟨c0, c1, f1⟩ := boxes1_cells w (.slice a (M.dig x).length ca)
  have HR := Lib.hid (hR.below hB2)
  have HB := Lib.hid hB2
  clear hR hB2
  go_enter Tryd.func73, Tryd.ntmps73
  go_wp2_with fail
  generalize hw3 : ((w.alloc (.cells #[.slice a (M.dig x).length ca] 24)).alloc (.cells #[.slice none 0 0] 24)) = w3
  obtain rfl : boxes1 w (.slice a (M.dig x).length ca) = w3 := hw3
  generalize boxes1 w (.slice a (M.dig x).length ca) = w3 at *
  refine (valid_yes a _ ca _ HR.out Hv.out).mono ?_
  rintro e w5 ⟨rfl, hb5⟩
  have k0 := cell_below hb5 c0
  have k1 := cell_below hb5 c1
  have l1 := frozen_below hb5 c1 f1
  have HB5 := Lib.hid (HB.out.trans (hb5.mono (by omega)))
  clear c0 c1 f1 hb5
  by_cases h0 : n < 0
  · clear hn
    go_wp2_with fail
    refine bodyPost_ret (v := .tuple #[.agg #[.slice none 0 0], .int .i64 2]) (by simp [results, Tryd.results73, go_sem, k1]) rfl ⟨rfl, HB5.out.setCell (p := ⟨w.heap.size + 1, 0, none⟩) (by show w.heap.size ≤ w.heap.size + 1; omega) _⟩
  · have h1 : 4800 < n := by omega
    clear hn
    go_wp2_with fail
    refine bodyPost_ret (v := .tuple #[.agg #[.slice none 0 0], .int .i64 2]) (by simp [results, Tryd.results73, go_sem, k1]) rfl ⟨rfl, HB5.out.setCell (p := ⟨w.heap.size + 1, 0, none⟩) (by show w.heap.size ≤ w.heap.size + 1; omega) _⟩

set_option maxRecDepth 100000 in
set_option maxHeartbeats 1000000 in
theorem choose_range (n k : Int) (w : World) (hn : n < 0 ∨ 4096 < n) :
    Calls Tryd.prog 70 #[.int .i64 n, .int .i64 k] w fun e W' => e = .returned (.tuple #[.agg #[.slice none 0 0], .int .i64 2]) ∧ Below w.heap.size w W' := by
  by_cases h : n < 0
  · clear hn
    skip
    go_enter Tryd.func70, Tryd.ntmps70
    go_wp2
    exact bodyPost_ret (v := .tuple #[.agg #[.slice none 0 0], .int .i64 2]) (by simp [results, Tryd.results70, go_sem]) rfl ⟨rfl, (Below.refl _ w).alloc (Nat.le_refl _) _⟩
  · have h2 : 4096 < n := by omega
    clear hn
    skip
    go_enter Tryd.func70, Tryd.ntmps70
    go_wp2
    exact bodyPost_ret (v := .tuple #[.agg #[.slice none 0 0], .int .i64 2]) (by simp [results, Tryd.results70, go_sem]) rfl ⟨rfl, (Below.refl _ w).alloc (Nat.le_refl _) _⟩

end Go.Proofs.YtmejneobfkbgeaaDoor

namespace Go.Proofs.YtmejneobfkbgeaaDoor
open Go Go.RowKit Go.Shelf

namespace C
/-- The number n is returned. -/
def NumR (n : Nat) (e : Ending) (W : World) : Prop := ∃ a c, e = .returned (.agg #[.slice a (M.dig n).length c]) ∧ Row W a (M.dig n) c
/-- A number is stored in a variable of its own and then in the result. -/
theorem ret_var {w wa w1 : World} {r : Nat} {a : Option Addr} {ca n : Nat} (hc : wa.cell? ⟨r, 0, none⟩ = some (.slice none 0 0)) (hf : wa.frozen? ⟨r, 0, none⟩ = false) (hB : Below w.heap.size w wa) (hr0 : w.heap.size ≤ r) (hb : Below wa.heap.size wa w1) (hr : Row w1 a (M.dig n) ca) :
    ∃ (g : Nat) (w2 w3 : World), w1.heap.size = g ∧ w1.alloc (.cells #[.slice a (M.dig n).length ca] 24) = w2 ∧ w2.cell? ⟨g, 0, none⟩ = some (.slice a (M.dig n).length ca) ∧ w2.cell? ⟨r, 0, none⟩ = some (.slice none 0 0) ∧ w2.frozen? ⟨r, 0, none⟩ = false ∧
      w2.setCell ⟨r, 0, none⟩ (.slice a (M.dig n).length ca) = w3 ∧ w3.cell? ⟨r, 0, none⟩ = some (.slice a (M.dig n).length ca) ∧ Row w3 a (M.dig n) ca ∧ Below w.heap.size w w3 := by
  have hlt := lt_of_cell hc
  have h1 : w1.cell? ⟨r, 0, none⟩ = some (.slice none 0 0) := (hb.cell (p := ⟨r, 0, none⟩) hlt).trans hc
  have h2 : w1.frozen? ⟨r, 0, none⟩ = false := (hb.frozen (p := ⟨r, 0, none⟩) hlt).trans hf
  have c2 := cell_later (.cells #[.slice a (M.dig n).length ca] 24) h1
  refine ⟨_, _, _, rfl, rfl, cell_new _ _ _, c2, frozen_later _ h1 h2, rfl, ?_, (hr.alloc _).store c2 _, ((hB.trans (hb.mono hB.size)).alloc (by have := hB.size; have := hb.size; omega) _).setCell (p := ⟨r, 0, none⟩) hr0 _⟩
  exact World.cell?_setCell_same' _ _ _ (by rw [c2]; rfl)

set_option maxRecDepth 100000 in
set_option maxHeartbeats 1000000 in
theorem number_any (n : Nat) (w : World) (hn : n ≤ 9223372036854775807) :
    Calls Tryd.prog 11 #[.int .i64 (n : Int)] w fun e W => NumR n e W ∧ Below w.heap.size w W := by
  have HO := Lib.hid (fun W => of_any n W hn)
  have c0 := cell_of_new w (.slice none 0 0) 24
  have hB0 := (Below.refl _ w).alloc (Nat.le_refl _) (.cells #[.slice none 0 0] 24)
  go_enter Tryd.func11, Tryd.ntmps11
  go_wp2_with fail
  (with_reducible refine (HO.out _).mono ?_)
  rintro e w1 ⟨v, rfl, ⟨a, ca, rfl, hr⟩, hb1⟩
  obtain ⟨g, w2, w3, hg, e1, d1, d2, d3, e2, d4, hr3, hb3⟩ := ret_var c0.1 c0.2 hB0 (Nat.le_refl _) hb1 hr
  clear hr hb1 hB0 HO
  go_wp2_with fail
  exact bodyPost_ret (v := .agg #[.slice a (M.dig n).length ca]) (by simp [results, Tryd.results11, go_sem, d4]) rfl ⟨⟨a, ca, rfl, hr3⟩, hb3⟩

set_option maxRecDepth 100000 in
set_option maxHeartbeats 1000000 in
theorem choose_any (n : Int) (k : Int) (w : World) (hn : n ≤ 4096) :
    Calls Tryd.prog 49 #[.int .i64 n, .int .i64 k] w fun e W => NumR (if n < 0 then 0 else chI n.toNat k) e W ∧ Below w.heap.size w W := by
  have HO := Lib.hid (show ∀ W, Calls Tryd.prog 70 #[.int .i64 n, .int .i64 k] W fun e W' => ∃ (v : Value) (z : Int), e = .returned (.tuple #[v, .int .i64 z]) ∧ Num W' v (if n < 0 then 0 else chI n.toNat k) ∧ Below W.heap.size W W' from fun W => by
    by_cases h : n < 0
    · rw [if_pos h]
      exact (choose_range n k W (.inl h)).mono fun e W' ⟨h1, h2⟩ => ⟨_, _, h1, num_zero _, h2⟩
    · rw [if_neg h]
      obtain ⟨m, rfl⟩ : ∃ m : Nat, n = m := ⟨n.toNat, by omega⟩
      exact (choose_num m k W (by omega)).mono fun e W' ⟨v, h1, h2, h3⟩ => ⟨v, _, h1, h2, h3⟩)
  obtain ⟨x, hx⟩ : ∃ x, (if n < 0 then 0 else chI n.toNat k) = x := ⟨_, rfl⟩
  rw [hx] at HO ⊢
  clear hx
  have c0 := cell_of_new w (.slice none 0 0) 24
  have hB0 := (Below.refl _ w).alloc (Nat.le_refl _) (.cells #[.slice none 0 0] 24)
  go_enter Tryd.func49, Tryd.ntmps49
  go_wp2_with fail
  (with_reducible refine (HO.out _).mono ?_)
  rintro e w1 ⟨v, z, rfl, ⟨a, ca, rfl, hr⟩, hb1⟩
  obtain ⟨g, w2, w3, hg, e1, d1, d2, d3, e2, d4, hr3, hb3⟩ := ret_var c0.1 c0.2 hB0 (Nat.le_refl _) hb1 hr
  clear hr hb1 hB0 HO
  go_wp2_with fail
  exact bodyPost_ret (v := .agg #[.slice a (M.dig x).length ca]) (by simp [results, Tryd.results49, go_sem, d4]) rfl ⟨⟨a, ca, rfl, hr3⟩, hb3⟩

set_option maxRecDepth 100000 in
set_option maxHeartbeats 1000000 in
theorem power_any (b n : Nat) (w : World) (hb : b ≤ 256) (hn : n ≤ 590) :
    Calls Tryd.prog 59 #[.int .i64 (b : Int), .int .i64 (n : Int)] w fun e W => NumR (b ^ n) e W ∧ Below w.heap.size w W := by
  obtain ⟨x, hx⟩ : ∃ x, b ^ n = x := ⟨_, rfl⟩
  have hl : (M.dig (b ^ n)).length ≤ 200 := by
    refine len_pow (e := 8 * n + 1) (Nat.lt_of_le_of_lt (Nat.pow_le_pow_left hb n) ?_) (by omega)
    rw [show (256 : Nat) = 2 ^ 8 from rfl, ← Nat.pow_mul]
    exact Nat.pow_lt_pow_right (by omega) (Nat.lt_succ_self _)
  have HN := Lib.hid (fun W => number_any b W (by omega))
  have HP := Lib.hid (show ∀ (W : World) (a : Option Addr) (ca : Nat), Row W a (M.dig b) ca → Calls Tryd.prog 73 #[.agg #[.slice a (M.dig b).length ca], .int .i64 (n : Int)] W fun e W' => ∃ a' c', e = .returned (.tuple #[.agg #[.slice a' (M.dig x).length c'], .int .i64 0]) ∧ Row W' a' (M.dig x) c' ∧ Below W.heap.size W W' from fun W a ca hr => by
    rw [← hx]
    refine (Go.Proofs.YtmejneobfkbgeaaDoor.power_any a ca b n W (M.dig_len_le.2 (Nat.lt_of_le_of_lt hb (Nat.lt_of_lt_of_le (by decide : 256 < 16777216 ^ 1) (Nat.pow_le_pow_right (by omega) (by omega))))) (by omega) hr).mono ?_
    rintro e W' ⟨hres, hb'⟩
    obtain ⟨v, rfl, a2, c2, rfl, hr2⟩ := hres.ok hl
    exact ⟨_, _, rfl, hr2, hb'⟩)
  rw [hx]
  clear hl hx
  have c0 := cell_of_new w (.slice none 0 0) 24
  have hB0 := (Below.refl _ w).alloc (Nat.le_refl _) (.cells #[.slice none 0 0] 24)
  go_enter Tryd.func59, Tryd.ntmps59
  go_wp2_with fail
  (with_reducible refine (HN.out _).mono ?_)
  rintro e w1 ⟨⟨a, ca, rfl, hr⟩, hb1⟩
  have HP1 := Lib.hid (HP.out w1 a ca hr)
  have HB1 := Lib.hid hb1
  clear hr hb1 HN HP
  go_wp2_with fail
  (with_reducible refine HP1.out.mono ?_)
  rintro e w2' ⟨a, ca, rfl, hr, hb2⟩
  obtain ⟨g, w2, w3, hg, e1, d1, d2, d3, e2, d4, hr3, hb3⟩ := ret_var c0.1 c0.2 hB0 (Nat.le_refl _) (HB1.out.trans (hb2.mono HB1.out.size)) hr
  clear hr hb2 hB0 HP1 HB1
  go_wp2_with fail
  exact bodyPost_ret (v := .agg #[.slice a (M.dig x).length ca]) (by simp [results, Tryd.results59, go_sem, d4]) rfl ⟨⟨a, ca, rfl, hr3⟩, hb3⟩

/-- Numbers of at most e bits. -/
theorem len_of {n e : Nat} (h : n < 2 ^ e) (he : e ≤ 4800) : (M.dig n).length ≤ 200 := len_pow h (Nat.le_trans he (Nat.le_refl _))
set_option maxRecDepth 100000 in
set_option maxHeartbeats 1000000 in
theorem plus_any (a b : Option Addr) (ca cb x y : Nat) (w : World) (hx : (M.dig x).length ≤ 200) (hy : (M.dig y).length ≤ 200) (hs : (M.dig (x + y)).length ≤ 200) (hA : Row w a (M.dig x) ca) (hB : Row w b (M.dig y) cb) :
    Calls Tryd.prog 13 #[.agg #[.slice a (M.dig x).length ca], .agg #[.slice b (M.dig y).length cb]] w fun e W => NumR (x + y) e W ∧ Below w.heap.size w W := by
  obtain ⟨w0, hw0⟩ : ∃ w0, boxes w (.slice a (M.dig x).length ca) (.slice b (M.dig y).length cb) = w0 := ⟨_, rfl⟩
  obtain ⟨p0, p1, p2, p3⟩ := boxes_cells w (.slice a (M.dig x).length ca) (.slice b (M.dig y).length cb)
  have hB0 := boxes_below w (.slice a (M.dig x).length ca) (.slice b (M.dig y).length cb)
  have hadd := add_num (w := w0) (u := .agg #[.slice a (M.dig x).length ca]) (v := .agg #[.slice b (M.dig y).length cb]) hx hy ⟨a, ca, rfl, by rw [← hw0]; exact hA.below (boxes_below w _ _)⟩ ⟨b, cb, rfl, by rw [← hw0]; exact hB.below (boxes_below w _ _)⟩
  obtain ⟨z, hz⟩ : ∃ z, x + y = z := ⟨_, rfl⟩
  rw [hz] at hadd hs ⊢
  have HA := Lib.hid hadd
  rw [hw0] at p0 p1 p2 p3 hB0
  unfold boxes at hw0
  clear hadd hA hB hz
  go_enter Tryd.func13, Tryd.ntmps13
  go_wp2_with fail
  (with_reducible refine HA.out.mono ?_)
  rintro e w1 ⟨hres, hb1⟩
  obtain ⟨v, rfl, a2, c2, rfl, hr⟩ := hres.ok hs
  obtain ⟨g, w2, w3, hg, e1, d1, d2, d3, e2, d4, hr3, hb3⟩ := ret_var p2 p3 hB0 (by omega) hb1 hr
  clear hr hb1 hB0 HA hs hres
  go_wp2_with fail
  exact bodyPost_ret (v := .agg #[.slice a2 (M.dig z).length c2]) (by simp [results, Tryd.results13, go_sem, d4]) rfl ⟨⟨a2, c2, rfl, hr3⟩, hb3⟩
end C
end Go.Proofs.YtmejneobfkbgeaaDoor

namespace Go.Proofs.YtmejneobfkbgeaaDoor
open Go Go.RowKit Go.Shelf

namespace C
/-- The number at k. -/
def nth (xs : List Nat) (k : Nat) : Nat := xs[k]?.getD 0
/-- The product of the first k numbers. -/
def prd (xs : List Nat) : Nat → Nat
  | 0 => 1
  | k + 1 => prd xs k * nth xs k
/-- Numbers in a block, one after the other. -/
def Facs (W : World) (g : Nat) (xs : List Nat) : Prop := ∀ j, j < xs.length → ∃ a c, W.cell? ⟨g, j, none⟩ = some (.slice a (M.dig (nth xs j)).length c) ∧ Row W a (M.dig (nth xs j)) c
theorem Facs.below {W W' : World} {g : Nat} {xs : List Nat} (h : Facs W g xs) (hb : Below W.heap.size W W') : Facs W' g xs := fun j hj => by
  obtain ⟨a, c, h1, h2⟩ := h j hj
  exact ⟨a, c, (hb.cell (p := ⟨g, j, none⟩) (lt_of_cell h1)).trans h1, h2.below hb⟩
/-- A variable of type Nat that may be stored into. -/
structure Bx (W : World) (g n : Nat) : Prop where
  cell : ∃ a c, W.cell? ⟨g, 0, none⟩ = some (.slice a (M.dig n).length c) ∧ Row W a (M.dig n) c
  free : W.frozen? ⟨g, 0, none⟩ = false
theorem Bx.lt {W : World} {g n : Nat} (h : Bx W g n) : g < W.heap.size := by
  obtain ⟨a, c, h1, _⟩ := h.cell
  exact lt_of_cell h1
theorem Bx.below {W W' : World} {g n : Nat} (h : Bx W g n) (hb : Below W.heap.size W W') : Bx W' g n := by
  have hl := h.lt
  obtain ⟨a, c, h1, h2⟩ := h.cell
  exact ⟨⟨a, c, (hb.cell (p := ⟨g, 0, none⟩) hl).trans h1, h2.below hb⟩, (hb.frozen (p := ⟨g, 0, none⟩) hl).trans h.free⟩
theorem Bx.drewN {W : World} {g n : Nat} (h : Bx W g n) (k : Nat) : Bx (W.drewN k) g n := by
  obtain ⟨a, c, h1, h2⟩ := h.cell
  exact ⟨⟨a, c, h1, h2.drewN k⟩, h.free⟩
theorem Bx.new {W : World} {a : Option Addr} {c n : Nat} (h : Row W a (M.dig n) c) : Bx (W.alloc (.cells #[.slice a (M.dig n).length c] 24)) W.heap.size n :=
  ⟨⟨a, c, cell_new _ _ _, h.alloc _⟩, frozen_new _ _ _⟩
theorem Bx.zero (W : World) : Bx (W.alloc (.cells #[.slice none 0 0] 24)) W.heap.size 0 := by
  have h := Bx.new (row_nil W)
  rw [M.dig_zero] at h
  exact h
theorem Bx.store {W : World} {g n n' : Nat} (h : Bx W g n) {a : Option Addr} {c : Nat} (hr : Row W a (M.dig n') c) : Bx (W.setCell ⟨g, 0, none⟩ (.slice a (M.dig n').length c)) g n' := by
  obtain ⟨a0, c0, h1, h2⟩ := h.cell
  refine ⟨⟨a, c, World.cell?_setCell_same' _ _ _ (by rw [h1]; rfl), hr.store h1 _⟩, ?_⟩
  rw [World.frozen?_setCell]
  exact h.free
theorem Bx.other {W : World} {g g' n n' : Nat} (h : Bx W g n) (h' : Bx W g' n') (hne : g ≠ g') (u : Value) : Bx (W.setCell ⟨g', 0, none⟩ u) g n := by
  obtain ⟨a0, c0, h1, h2⟩ := h.cell
  obtain ⟨a1, c1, k1, _⟩ := h'.cell
  refine ⟨⟨a0, c0, ?_, h2.store k1 _⟩, ?_⟩
  · rw [cell_other u (show g ≠ g' from hne)]; exact h1
  · rw [World.frozen?_setCell]; exact h.free

set_option maxRecDepth 100000 in
set_option maxHeartbeats 1000000 in
/-- **chance.product** -/
theorem product_any (g cap : Nat) (xs : List Nat) (w : World) (hcap : xs.length ≤ cap) (hcap2 : cap ≤ 9223372036854775807) (hF : Facs w g xs) (hl : ∀ j, j < xs.length → (M.dig (nth xs j)).length ≤ 200) (hp : ∀ k, k ≤ xs.length → (M.dig (prd xs k)).length ≤ 200) :
    Calls Tryd.prog 10 #[.slice (some ⟨g, 0, none⟩) xs.length cap] w fun e W => NumR (prd xs xs.length) e W ∧ Below w.heap.size w W := by
  have HP := Lib.hid hp
  have HL := Lib.hid hl
  have HN := Lib.hid (fun W => (show Calls Tryd.prog 11 #[.int .i64 1] W (fun e W' => NumR 1 e W' ∧ Below W.heap.size W W') from number_any 1 W (by omega)))
  have HF := Lib.hid hF
  have hr0 := Bx.zero w
  have hB0 := (Below.refl _ w).alloc (Nat.le_refl _) (.cells #[.slice none 0 0] 24)
  obtain ⟨w0, hw0⟩ : ∃ w0, w.alloc (.cells #[.slice none 0 0] 24) = w0 := ⟨_, rfl⟩
  rw [hw0] at hr0 hB0
  have HR0 := Lib.hid hr0
  obtain ⟨x, hx⟩ : ∃ x, prd xs xs.length = x := ⟨_, rfl⟩
  rw [hx]
  have HX := Lib.hid hx
  clear hr0 hF hl hp hx
  go_enter Tryd.func10, Tryd.ntmps10
  go_wp2_with fail
  (with_reducible refine (HN.out _).mono ?_)
  rintro e w1 ⟨⟨a, ca, rfl, hr⟩, hb1⟩
  obtain ⟨gb, hgb⟩ : ∃ gb, w1.heap.size = gb := ⟨_, rfl⟩
  obtain ⟨w2, hw2⟩ : ∃ w2, w1.alloc (.cells #[.slice a (M.dig 1).length ca] 24) = w2 := ⟨_, rfl⟩
  have hb2 : Below w1.heap.size w1 w2 := by rw [← hw2]; exact (Below.refl _ w1).alloc (Nat.le_refl _) _
  have hV := Bx.new hr
  rw [hw2, hgb] at hV
  have hlt := HR0.out.lt
  have hs1 := hb1.size
  have hne : ¬ w.heap.size = gb := by omega
  have HR2 := Lib.hid ((HR0.out.below hb1).below hb2)
  have HV2 := Lib.hid hV
  have HB2 := Lib.hid ((hB0.trans (hb1.mono hB0.size)).trans (hb2.mono (by have := hB0.size; omega)))
  clear hr hb1 hb2 hV hB0 HN HR0
  go_wp2_with fail
  go_loopw [9] (fun i wr => ∃ k : Nat, i = .int .i64 (k : Int) ∧ k ≤ xs.length ∧ Bx wr gb (prd xs k) ∧ Bx wr w.heap.size 0 ∧ Below w.heap.size w wr) (fun i _ => xs.length - (intOf i).toNat)
  case atStart => exact ⟨0, rfl, Nat.zero_le _, HV2.out, HR2.out, HB2.out⟩
  case round => as_aux_lemma =>
    clear HV2 HR2 HB2
    obtain ⟨k, rfl, hk, hV, hR, hB⟩ := hrel
    have HV := Lib.hid hV
    have HR := Lib.hid hR
    have HB := Lib.hid hB
    clear hV hR hB
    by_cases hlt : k < xs.length
    · obtain ⟨af, cf, c1, hrf⟩ := (HF.out.below HB.out) k hlt
      obtain ⟨x', hx⟩ : ∃ x', nth xs k = x' := ⟨_, rfl⟩
      obtain ⟨y, hy⟩ : ∃ y, prd xs k = y := ⟨_, rfl⟩
      have hlx := HL.out k hlt
      have hly := HP.out k hk
      have hlz := HP.out (k + 1) hlt
      have e1 : prd xs (k + 1) = y * x' := by rw [← hx, ← hy]; rfl
      rw [hx] at c1 hrf hlx
      rw [hy] at hly HV
      rw [e1] at hlz
      have HE := Lib.hid e1
      obtain ⟨w3, hw3⟩ : ∃ w3, wr.alloc (.cells #[.slice af (M.dig x').length cf] 24) = w3 := ⟨_, rfl⟩
      have hb3 : Below wr.heap.size wr w3 := by rw [← hw3]; exact (Below.refl _ wr).alloc (Nat.le_refl _) _
      have hc3 : w3.cell? ⟨wr.heap.size, 0, none⟩ = some (.slice af (M.dig x').length cf) := by rw [← hw3]; exact cell_new _ _ _
      have HV3 := Lib.hid (HV.out.below hb3)
      obtain ⟨ay, cy, c2, hry⟩ := HV3.out.cell
      have hmul := mul_any ay af cy cf y x' w3 hly hlx hry (hrf.below hb3)
      have HM := Lib.hid hmul
      have HR3 := Lib.hid (HR.out.below hb3)
      have HB3 := Lib.hid (HB.out.trans (hb3.mono HB.out.size))
      have HLZ := Lib.hid hlz
      clear hx hy hlx hly hlz e1 hb3 hry hrf hmul HV HR HB
      go_wp2_with fail
      (with_reducible refine HM.out.mono ?_)
      rintro e w4 ⟨hres, hb4⟩
      obtain ⟨v, rfl, a4, c4, rfl, hr4⟩ := hres.ok HLZ.out
      have hv4 := HV3.out.below hb4
      have hr44 := HR3.out.below hb4
      obtain ⟨_, _, d1, _⟩ := hv4.cell
      have d2 := hv4.free
      have HV5 := Lib.hid (hv4.store hr4)
      have HR5 := Lib.hid (hr44.other hv4 hne (.slice a4 (M.dig (y * x')).length c4))
      have HB5 := Lib.hid (((HB3.out.trans (hb4.mono HB3.out.size)).setCell (p := ⟨gb, 0, none⟩) (by show w.heap.size ≤ gb; omega) (.slice a4 (M.dig (y * x')).length c4)))
      clear hres hb4 hr4 hv4 hr44 HM HV3 HR3 HB3 c1 c2 hc3 hw3
      go_wp2_with fail
      go_roundw
      case rel => exact ⟨k + 1, by go_num, hlt, by rw [HE.out]; exact HV5.out, HR5.out, HB5.out⟩
      case measure => simp [intOf]; omega
    · obtain rfl : k = xs.length := by omega
      rw [HX.out] at HV
      obtain ⟨a2, c2, d1, hr⟩ := HV.out.cell
      obtain ⟨_, _, d2, _⟩ := HR.out.cell
      have d3 := HR.out.free
      have HR5 := Lib.hid (HR.out.store hr)
      have HB5 := Lib.hid (HB.out.setCell (p := ⟨w.heap.size, 0, none⟩) (Nat.le_refl _) (.slice a2 (M.dig x).length c2))
      have d4 : (wr.setCell ⟨w.heap.size, 0, none⟩ (.slice a2 (M.dig x).length c2)).cell? ⟨w.heap.size, 0, none⟩ = some (.slice a2 (M.dig x).length c2) := World.cell?_setCell_same' _ _ _ (by rw [d2]; rfl)
      have hr5 := hr.store d2 (.slice a2 (M.dig x).length c2)
      clear HV HR HB hr
      go_wp2_with fail
      exact bodyPost_ret (v := .agg #[.slice a2 (M.dig x).length c2]) (by simp [results, Tryd.results10, go_sem, d4]) rfl ⟨⟨a2, c2, rfl, hr5⟩, HB5.out⟩
end C
end Go.Proofs.YtmejneobfkbgeaaDoor

namespace Go.Proofs.YtmejneobfkbgeaaDoor
open Go Go.RowKit Go.Shelf

namespace C
/-- The terms at even and at odd places below k, added up. -/
def ev (f : Nat → Nat) : Nat → Nat
  | 0 => 0
  | k + 1 => if k % 2 = 0 then ev f k + f k else ev f k
def od (f : Nat → Nat) : Nat → Nat
  | 0 => 0
  | k + 1 => if k % 2 = 0 then od f k else od f k + f k

set_option maxRecDepth 100000 in
set_option maxHeartbeats 1000000 in
/-- **chance.alternating** -/
theorem alternating_any (N : Nat) (v1 v2 : Value) (f : Nat → Nat) (last : Nat) (w : World) (hlast : last ≤ 1000) (hcf : ∀ (args : Array Value) (W : World), Sem.run Tryd.prog (callFunc N args) W = .ok (.enter N args) W)
    (hT : ∀ k, k ≤ last → ∀ W, Below w.heap.size w W → Calls Tryd.prog N #[.int .i64 (k : Int), v1, v2] W fun e W' => NumR (f k) e W' ∧ Below W.heap.size W W')
    (hl : ∀ k, k ≤ last → (M.dig (f k)).length ≤ 200) (he : ∀ k, k ≤ last + 1 → (M.dig (ev f k)).length ≤ 200) (ho : ∀ k, k ≤ last + 1 → (M.dig (od f k)).length ≤ 200) :
    Calls Tryd.prog 26 #[.int .i64 (last : Int), .func (.func N) #[] #[v1, v2]] w fun e W => NumR (ev f (last + 1) - od f (last + 1)) e W ∧ Below w.heap.size w W := by
  have HT := Lib.hid hT
  have HL := Lib.hid hl
  have HE := Lib.hid he
  have HO := Lib.hid ho
  have hr0 := Bx.zero w
  have hB0 := (Below.refl _ w).alloc (Nat.le_refl _) (.cells #[.slice none 0 0] 24)
  obtain ⟨w0, hw0⟩ : ∃ w0, w.alloc (.cells #[.slice none 0 0] 24) = w0 := ⟨_, rfl⟩
  have hs0 : w0.heap.size = w.heap.size + 1 := by rw [← hw0, World.size_alloc]
  rw [hw0] at hr0 hB0
  have hr1 := Bx.zero w0
  have hB1 := (Below.refl _ w0).alloc (Nat.le_refl _) (.cells #[.slice none 0 0] 24)
  obtain ⟨w1, hw1⟩ : ∃ w1, w0.alloc (.cells #[.slice none 0 0] 24) = w1 := ⟨_, rfl⟩
  have hs1 : w1.heap.size = w.heap.size + 2 := by rw [← hw1, World.size_alloc, hs0]
  rw [hw1, hs0] at hr1
  rw [hw1] at hB1
  have hr2 := Bx.zero w1
  have hB2 := (Below.refl _ w1).alloc (Nat.le_refl _) (.cells #[.slice none 0 0] 24)
  obtain ⟨w2, hw2⟩ : ∃ w2, w1.alloc (.cells #[.slice none 0 0] 24) = w2 := ⟨_, rfl⟩
  rw [hw2, hs1] at hr2
  rw [hw2] at hB2
  have HR := Lib.hid ((hr0.below hB1).below hB2)
  have HEv := Lib.hid (hr1.below hB2)
  have HOd := Lib.hid hr2
  have HB := Lib.hid ((hB0.trans (hB1.mono (by omega))).trans (hB2.mono (by omega)))
  obtain ⟨gr, hgr⟩ : ∃ gr, w.heap.size = gr := ⟨_, rfl⟩
  obtain ⟨ge, hge⟩ : ∃ ge, w.heap.size + 1 = ge := ⟨_, rfl⟩
  obtain ⟨go, hgo⟩ : ∃ go, w.heap.size + 2 = go := ⟨_, rfl⟩
  rw [hgr] at HR
  rw [hge] at HEv hs0
  rw [hgo] at HOd hs1
  have n1 : gr ≠ ge := by omega
  have n2 : gr ≠ go := by omega
  have n3 : ge ≠ go := by omega
  clear hT hl he ho hr0 hr1 hr2 hB0 hB1 hB2
  go_enter Tryd.func26, Tryd.ntmps26
  go_wp2_with fail
  go_loopw [7, 12] (fun _ i wr => ∃ k : Nat, i = .int .i64 (k : Int) ∧ k ≤ last + 1 ∧ Hid (Bx wr ge (ev f k)) ∧ Hid (Bx wr go (od f k)) ∧ Hid (Bx wr gr 0) ∧ Hid (Below w.heap.size w wr)) (fun _ i _ => last + 1 - (intOf i).toNat)
  case atStart => exact ⟨0, rfl, Nat.zero_le _, HEv, HOd, HR, HB⟩
  case round => as_aux_lemma =>
    clear HEv HOd HR HB
    obtain ⟨k, rfl, hk, HEv, HOd, HR, HB⟩ := hrel
    by_cases hlt : k < last + 1
    · obtain ⟨x, hx⟩ : ∃ x, f k = x := ⟨_, rfl⟩
      have hk2 : k ≤ last := by omega
      have hlx := HL.out k hk2
      rw [hx] at hlx
      rcases Nat.mod_two_eq_zero_or_one k with hm | hm
      · have hmi : ((k : Int) % 2 == 0) = true := by rw [beq_iff_eq]; omega
        have hmt : (Int.tmod (k : Int) 2 == 0) = true := by rw [beq_iff_eq, Int.tmod_eq_emod_of_nonneg (by omega)]; omega
        have hmt2 : Int.tmod (k : Int) 2 = 0 := by rw [Int.tmod_eq_emod_of_nonneg (by omega)]; omega
        obtain ⟨y, hy⟩ : ∃ y, ev f k = y := ⟨_, rfl⟩
        have hly := HE.out k hk
        have hlz := HE.out (k + 1) (by omega)
        have e1 : ev f (k + 1) = y + x := by rw [← hx, ← hy]; exact by rw [ev, if_pos hm]
        have e2 : od f (k + 1) = od f k := by rw [od, if_pos hm]
        rw [e1] at hlz
        rw [hy] at hly HEv
        have HEQ := Lib.hid (And.intro e1 e2)
        obtain ⟨a, c, c1, hr⟩ := HEv.out.cell
        have q1 : wr.drew.cell? ⟨ge, 0, none⟩ = some (.slice a (M.dig y).length c) := c1
        have HV := Lib.hid (show Bx wr.drew ge y from HEv.out.drewN 1)
        have HW := Lib.hid (show Bx wr.drew go (od f k) from HOd.out.drewN 1)
        have HR1 := Lib.hid (show Bx wr.drew gr 0 from HR.out.drewN 1)
        have HB1 := Lib.hid (show Below w.heap.size w wr.drew from HB.out.drew)
        have HRY := Lib.hid (show Row wr.drew a (M.dig y) c from hr.drewN 1)
        have ht1 := HT.out k hk2 wr.drew HB1.out
        rw [hx] at ht1
        have HT1 := Lib.hid ht1
        have HLS := Lib.hid (And.intro hly hlz)
        have HLX := Lib.hid hlx
        clear hx hy hly hlz hlx e1 e2 c1 hr ht1 HEv HOd HR HB
        go_wp2_with fail
        go_region_law (first
            | (go_simp; (with_reducible refine HT1.out.mono ?_); rintro e w10 ⟨⟨a2, c2, rfl, hr2⟩, hb10⟩; have HV2 := Lib.hid (HV.out.below hb10); have q2 := (hb10.cell (p := ⟨ge, 0, none⟩) (lt_of_cell q1)).trans q1; have HP := Lib.hid (plus_any a a2 c c2 y x w10 HLS.out.1 HLX.out HLS.out.2 (HRY.out.below hb10) hr2); have HW2 := Lib.hid (HW.out.below hb10); have HR2 := Lib.hid (HR1.out.below hb10); have HB2 := Lib.hid (HB1.out.trans (hb10.mono HB1.out.size)); clear hr2 hb10; go_simp)
            | (go_simp; go_at_call 13; (with_reducible refine HP.out.mono ?_); rintro e w11 ⟨⟨a3, c3, rfl, hr3⟩, hb11⟩; have hv3 := HV2.out.below hb11; obtain ⟨_, _, d1, _⟩ := hv3.cell; have d2 := hv3.free; have HV3 := Lib.hid (hv3.store hr3); have HW3 := Lib.hid ((HW2.out.below hb11).other hv3 n3.symm (.slice a3 (M.dig (y + x)).length c3)); have HR3 := Lib.hid ((HR2.out.below hb11).other hv3 n1 (.slice a3 (M.dig (y + x)).length c3)); have HB3 := Lib.hid ((HB2.out.trans (hb11.mono HB2.out.size)).setCell (p := ⟨ge, 0, none⟩) (by show w.heap.size ≤ ge; omega) (.slice a3 (M.dig (y + x)).length c3)); clear hv3 hr3 hb11; go_simp))
        all_goals (
          go_wp2_with fail
          go_roundw
          case rel => exact ⟨k + 1, by go_num, by omega, Lib.hid (by rw [HEQ.out.1]; exact HV3.out), Lib.hid (by rw [HEQ.out.2]; exact HW3.out), HR3, HB3⟩
          case measure => simp [intOf]; omega)
      · have hm' : ¬ k % 2 = 0 := by omega
        have hmi : ((k : Int) % 2 == 0) = false := by rw [beq_eq_false_iff_ne]; omega
        have hmt : (Int.tmod (k : Int) 2 == 0) = false := by rw [beq_eq_false_iff_ne, Int.tmod_eq_emod_of_nonneg (by omega)]; omega
        have hmt2 : ¬ Int.tmod (k : Int) 2 = 0 := by rw [Int.tmod_eq_emod_of_nonneg (by omega)]; omega
        obtain ⟨y, hy⟩ : ∃ y, od f k = y := ⟨_, rfl⟩
        have hly := HO.out k hk
        have hlz := HO.out (k + 1) (by omega)
        have e1 : od f (k + 1) = y + x := by rw [← hx, ← hy]; exact by rw [od, if_neg hm']
        have e2 : ev f (k + 1) = ev f k := by rw [ev, if_neg hm']
        rw [e1] at hlz
        rw [hy] at hly HOd
        have HEQ := Lib.hid (And.intro e1 e2)
        obtain ⟨a, c, c1, hr⟩ := HOd.out.cell
        have q1 : wr.drew.cell? ⟨go, 0, none⟩ = some (.slice a (M.dig y).length c) := c1
        have HV := Lib.hid (show Bx wr.drew go y from HOd.out.drewN 1)
        have HW := Lib.hid (show Bx wr.drew ge (ev f k) from HEv.out.drewN 1)
        have HR1 := Lib.hid (show Bx wr.drew gr 0 from HR.out.drewN 1)
        have HB1 := Lib.hid (show Below w.heap.size w wr.drew from HB.out.drew)
        have HRY := Lib.hid (show Row wr.drew a (M.dig y) c from hr.drewN 1)
        have ht1 := HT.out k hk2 wr.drew HB1.out
        rw [hx] at ht1
        have HT1 := Lib.hid ht1
        have HLS := Lib.hid (And.intro hly hlz)
        have HLX := Lib.hid hlx
        clear hx hy hly hlz hlx e1 e2 c1 hr ht1 HOd HEv HR HB
        go_wp2_with fail
        go_region_law (first
            | (go_simp; (with_reducible refine HT1.out.mono ?_); rintro e w10 ⟨⟨a2, c2, rfl, hr2⟩, hb10⟩; have HV2 := Lib.hid (HV.out.below hb10); have q2 := (hb10.cell (p := ⟨go, 0, none⟩) (lt_of_cell q1)).trans q1; have HP := Lib.hid (plus_any a a2 c c2 y x w10 HLS.out.1 HLX.out HLS.out.2 (HRY.out.below hb10) hr2); have HW2 := Lib.hid (HW.out.below hb10); have HR2 := Lib.hid (HR1.out.below hb10); have HB2 := Lib.hid (HB1.out.trans (hb10.mono HB1.out.size)); clear hr2 hb10; go_simp)
            | (go_simp; go_at_call 13; (with_reducible refine HP.out.mono ?_); rintro e w11 ⟨⟨a3, c3, rfl, hr3⟩, hb11⟩; have hv3 := HV2.out.below hb11; obtain ⟨_, _, d1, _⟩ := hv3.cell; have d2 := hv3.free; have HV3 := Lib.hid (hv3.store hr3); have HW3 := Lib.hid ((HW2.out.below hb11).other hv3 n3 (.slice a3 (M.dig (y + x)).length c3)); have HR3 := Lib.hid ((HR2.out.below hb11).other hv3 n2 (.slice a3 (M.dig (y + x)).length c3)); have HB3 := Lib.hid ((HB2.out.trans (hb11.mono HB2.out.size)).setCell (p := ⟨go, 0, none⟩) (by show w.heap.size ≤ go; omega) (.slice a3 (M.dig (y + x)).length c3)); clear hv3 hr3 hb11; go_simp))
        all_goals (
          go_wp2_with fail
          go_roundw
          case rel => exact ⟨k + 1, by go_num, by omega, Lib.hid (by rw [HEQ.out.2]; exact HW3.out), Lib.hid (by rw [HEQ.out.1]; exact HV3.out), HR3, HB3⟩
          case measure => simp [intOf]; omega)
    · obtain rfl : k = last + 1 := by omega
      obtain ⟨x, hx⟩ : ∃ x, ev f (last + 1) = x := ⟨_, rfl⟩
      obtain ⟨y, hy⟩ : ∃ y, od f (last + 1) = y := ⟨_, rfl⟩
      have hlx := HE.out (last + 1) (Nat.le_refl _)
      have hly := HO.out (last + 1) (Nat.le_refl _)
      rw [hx] at hlx HEv
      rw [hy] at hly HOd
      obtain ⟨z, hz⟩ : ∃ z, x - y = z := ⟨_, rfl⟩
      have HZ := Lib.hid (show z = ev f (last + 1) - od f (last + 1) by rw [hx, hy]; exact hz.symm)
      obtain ⟨a, c, c1, hr1⟩ := HEv.out.cell
      obtain ⟨b, d, c2, hr2⟩ := HOd.out.cell
      have HS := Lib.hid (show Calls Tryd.prog 48 #[.agg #[.slice a (M.dig x).length c], .agg #[.slice b (M.dig y).length d]] wr fun e W' => ∃ (a' : Option Addr) (c' : Nat) (k : Int), e = .returned (.tuple #[.agg #[.slice a' (M.dig z).length c'], .int .i64 k]) ∧ Row W' a' (M.dig z) c' ∧ Below wr.heap.size wr W' from by
        by_cases h : y ≤ x
        · refine (sub_ge a b c d x y wr hlx hly hr1 hr2 h).mono ?_
          rintro e W' ⟨hres, hb⟩
          obtain ⟨v, rfl, a', c', rfl, hr⟩ := hres.ok (by exact Nat.le_trans (M.dig_len_le.2 (Nat.lt_of_le_of_lt (Nat.sub_le x y) (M.dig_len_le.1 (Nat.le_refl _)))) hlx)
          rw [hz] at hr ⊢
          exact ⟨_, _, _, rfl, hr, hb⟩
        · refine (sub_lt a b c d x y wr hlx hly hr1 hr2 (by omega)).mono ?_
          rintro e W' ⟨rfl, hb⟩
          have h0 : z = 0 := by omega
          rw [h0]
          have := row_nil W'
          rw [M.dig_zero] at this ⊢
          exact ⟨_, _, _, rfl, this, hb⟩)
      clear hx hy hlx hly hz hr1 hr2 HEv HOd
      obtain ⟨a0, c0, q0, _⟩ := HR.out.cell
      rw [M.dig_zero] at q0
      have qf := HR.out.free
      go_wp2_with fail
      (with_reducible refine HS.out.mono ?_)
      rintro e w4 ⟨a', c', kk, rfl, hr, hb⟩
      have hr4 := HR.out.below hb
      obtain ⟨w5, hw5⟩ : ∃ w5, w4.alloc (.cells #[.slice a' (M.dig z).length c'] 24) = w5 := ⟨_, rfl⟩
      have hb5 : Below w4.heap.size w4 w5 := by rw [← hw5]; exact (Below.refl _ w4).alloc (Nat.le_refl _) _
      have hv5 := Bx.new hr
      rw [hw5] at hv5
      have hr5 := hr4.below hb5
      obtain ⟨_, _, d1, _⟩ := hr5.cell
      have d2 := hr5.free
      have d3 : w5.cell? ⟨w4.heap.size, 0, none⟩ = some (.slice a' (M.dig z).length c') := by rw [← hw5]; exact cell_new _ _ _
      have HR6 := Lib.hid (hr5.store (hr.below hb5))
      have d4 : (w5.setCell ⟨gr, 0, none⟩ (.slice a' (M.dig z).length c')).cell? ⟨gr, 0, none⟩ = some (.slice a' (M.dig z).length c') := World.cell?_setCell_same' _ _ _ (by rw [d1]; rfl)
      have hr6 := (hr.below hb5).store d1 (.slice a' (M.dig z).length c')
      have HB6 := Lib.hid ((((HB.out.trans (hb.mono HB.out.size)).trans (hb5.mono (by have := HB.out.size; have := hb.size; omega)))).setCell (p := ⟨gr, 0, none⟩) (by show w.heap.size ≤ gr; omega) (.slice a' (M.dig z).length c'))
      clear hr4 hb hb5 hv5 hr5 hr HS HR HB
      go_wp2_with fail
      exact bodyPost_ret (v := .agg #[.slice a' (M.dig z).length c']) (by simp [results, Tryd.results26, go_sem, d4]) rfl ⟨⟨a', c', by rw [← HZ.out], by rw [← HZ.out]; exact hr6⟩, HB6.out⟩
end C
end Go.Proofs.YtmejneobfkbgeaaDoor
