/- The reference's mul and Mul. -/
import Derived.Test.YtfaggdjoogpmmaaDoorB10
import Derived.Deep.RegionHeld3
namespace Go.Proofs.YtfaggdjoogpmmaaDoor
open Go Go.RowKit Go.Shelf

def RMulRel (w w2 : World) (g x y : Nat) (i : Value) (W : World) : Prop :=
  ∃ (k : Nat) (zs : List Int), i = .int .i64 (k : Int) ∧ k ≤ (M.dig x).length ∧ zs.length = (M.dig x).length + (M.dig y).length + 1 ∧ M.Lim zs ∧ (∀ m : Nat, k + (M.dig y).length ≤ m → M.el zs m = 0) ∧
    M.val zs = M.val ((M.dig x).take k) * y ∧ Own W (w.heap.size + 2) (.slice (some ⟨g, 0, none⟩) zs.length zs.length) zs ∧ Below w2.heap.size w2 W

def RMulIn (w w2 : World) (g x y k : Nat) (c i : Value) (W : World) : Prop :=
  ∃ (j : Nat) (zs : List Int) (q : Int), i = .int .i64 (j : Int) ∧ c = .int .i64 q ∧ j ≤ (M.dig y).length + 1 ∧ zs.length = (M.dig x).length + (M.dig y).length + 1 ∧ M.Lim zs ∧ (∀ m : Nat, k + 1 + (M.dig y).length ≤ m → M.el zs m = 0) ∧
    (j ≤ (M.dig y).length → M.el zs (k + (M.dig y).length) = 0) ∧ 0 ≤ q ∧ q < 16777216 ∧ (j = (M.dig y).length + 1 → q = 0) ∧
    M.val zs + 16777216 ^ (k + j) * q = M.val ((M.dig x).take k) * y + 16777216 ^ k * (M.el (M.dig x) k * M.val ((M.dig y).take j)) ∧ Own W (w.heap.size + 2) (.slice (some ⟨g, 0, none⟩) zs.length zs.length) zs ∧ Below w2.heap.size w2 W

set_option maxRecDepth 100000 in
set_option maxHeartbeats 2000000 in
/-- **ref01.mul** -/
theorem rmul_any (a b : Option Addr) (ca cb x y : Nat) (w : World) (hx : (M.dig x).length ≤ 200) (hy : (M.dig y).length ≤ 200) (hA : Row w a (M.dig x) ca) (hB : Row w b (M.dig y) cb) :
    Calls Tryd.prog 74 #[.agg #[.slice a (M.dig x).length ca], .agg #[.slice b (M.dig y).length cb]] w fun e W' => ∃ g zs, e = .returned (.slice (some ⟨g, 0, none⟩) zs.length zs.length) ∧ Row W' (some ⟨g, 0, none⟩) zs zs.length ∧ M.trimL zs = M.dig (x * y) ∧ Below w.heap.size w W' := by
  have hb := ((Below.refl _ w).alloc (Nat.le_refl _) (.cells #[.slice a (M.dig x).length ca] 24)).alloc (by simp) (.cells #[.slice b (M.dig y).length cb] 24)
  have HA := Lib.hid (hA.below hb)
  have HB := Lib.hid (hB.below hb)
  have HBB := Lib.hid hb
  have hra := hA.room
  have hma := hA.most
  have hrb := hB.room
  have hmb := hB.most
  have c0 := cell_later (.cells #[.slice b (M.dig y).length cb] 24) (cell_new w (.slice a (M.dig x).length ca) 24)
  have c1 := cell_new (w.alloc (.cells #[.slice a (M.dig x).length ca] 24)) (.slice b (M.dig y).length cb) 24
  simp only [World.size_alloc] at c1
  have hs2 : ((w.alloc (.cells #[.slice a (M.dig x).length ca] 24)).alloc (.cells #[.slice b (M.dig y).length cb] 24)).heap.size = w.heap.size + 2 := by simp
  have HC := Lib.hid (And.intro c0 c1)
  clear hA hB hb c0 c1
  go_enter Tryd.func74, Tryd.ntmps74
  go_wp2_with (at_make; refine wpList_make1 rfl _ _ rfl ((M.dig x).length + (M.dig y).length + 1) rfl rfl (by omega) (by omega) (B := w.heap.size + 2) (by rw [hs2]; exact Nat.le_refl _) ?_; intro w6 hown6 hb6)
  generalize ((w.alloc (.cells #[.slice a (M.dig x).length ca] 24)).alloc (.cells #[.slice b (M.dig y).length cb] 24)) = w2 at *
  have HS2 := Lib.hid hs2
  rw [hs2] at hown6
  rw [← hs2] at hb6
  clear hs2
  go_loopw [6] (fun i wr => RMulRel w w2 (w.heap.size + 2) x y i wr) (fun i _ => (M.dig x).length - (intOf i).toNat)
  case atStart => exact ⟨0, _, rfl, Nat.zero_le _, List.length_replicate, M.Lim.replicate _, fun m _ => M.el_replicate _ _, by simp [M.val_replicate, M.val], by simpa using hown6, hb6⟩
  case round =>
    obtain ⟨k, zs, rfl, hk, hlen, hlim, hz, hval, hown, hbW⟩ := hrel
    clear hown6 hb6
    have c0 := cell_below hbW HC.out.1
    have c1 := cell_below hbW HC.out.2
    have hrow := HA.out.below hbW
    by_cases hlt : k < (M.dig x).length
    · have hax := (M.lim_dig x).get k
      obtain ⟨ex, hex⟩ : ∃ ex, M.el (M.dig x) k = ex := ⟨_, rfl⟩
      obtain ⟨b1, o1, rfl, hca0⟩ := HA.out.el k hlt
      rw [hex] at hax hca0
      have HCA := Lib.hid hca0
      have HEX := Lib.hid hex
      have hi0 : RMulIn w w2 (w.heap.size + 2) x y k (.int .i64 0) (.int .i64 0) wr := ⟨0, zs, 0, rfl, rfl, by omega, hlen, hlim, fun m hm => hz m (by omega), fun _ => hz _ (Nat.le_refl _), by omega, by omega, fun h => rfl, by rw [hval]; simp [M.val], hown, hbW⟩
      have HI0 := Lib.hid hi0
      clear hi0 hex hca0 hrow hlen hlim hz hval hown hbW
      go_wp2_with fail
      clear c0 c1
      go_loopw [7, 8] (fun c i wr => RMulIn w w2 (w.heap.size + 2) x y k c i wr) (fun _ i _ => (M.dig y).length + 1 - (intOf i).toNat)
      case atStart => exact HI0.out
      case round =>
        clear HI0
        obtain ⟨j, zs, q, rfl, rfl, hj, hlen, hlim, hz, hz1, hq0, hq1, hq2, hval, hown, hbW⟩ := hrel
        have c0 := cell_below hbW HC.out.1
        have c1 := cell_below hbW HC.out.2
        have hcx := cell_below hbW HCA.out
        have HBW := Lib.hid hbW
        have HVAL := Lib.hid hval
        have HLN := Lib.hid hlen
        have HLIM := Lib.hid hlim
        have HZ := Lib.hid hz
        have HZ1 := Lib.hid hz1
        have HQ2 := Lib.hid hq2
        have HOWN := Lib.hid hown
        have HLB := Lib.hid (rlimb_any b (M.dig y) cb j wr.drew ((HB.out.below hbW).drewN 1))
        have hsW := hbW.size
        clear hval hlen hlim hown hz hz1 hq2 hbW
        by_cases hgo : j < (M.dig y).length ∨ 0 < q
        · have hjl : j ≤ (M.dig y).length := by
            rcases hgo with h | h
            · omega
            · rcases Nat.lt_or_ge j ((M.dig y).length + 1) with h1 | h1
              · omega
              · have := HQ2.out (by omega); omega
          have hby := (M.lim_dig y).get j
          obtain ⟨ey, hey⟩ : ∃ ey, M.el (M.dig y) j = ey := ⟨_, rfl⟩
          rw [hey] at hby HLB
          have HEY := Lib.hid hey
          have hmb := M.mul_bound hax hby
          have hez := HLIM.out.get (k + j)
          obtain ⟨hgB, hcz, hfz⟩ := HOWN.out.at (k + j) (by rw [HLN.out]; omega)
          obtain ⟨ez, hez'⟩ : ∃ ez, M.el zs (k + j) = ez := ⟨_, rfl⟩
          rw [hez'] at hez hcz
          have HEZ := Lib.hid hez'
          obtain ⟨pr, hpr⟩ : ∃ pr, ex * ey = pr := ⟨_, rfl⟩
          rw [hpr] at hmb
          have hwp : IntKind.i64.wrap (ex * ey) = pr := by rw [hpr, IntKind.wrap_i64]; omega
          have HPR := Lib.hid hpr
          obtain ⟨s1, hs1⟩ : ∃ s1, s1 = ez + pr := ⟨_, rfl⟩
          obtain ⟨v, hv⟩ : ∃ v, v = s1 + q := ⟨_, rfl⟩
          have hws : IntKind.i64.wrap (ez + pr) = s1 := by rw [IntKind.wrap_i64]; omega
          have hwv : IntKind.i64.wrap (s1 + q) = v := by rw [IntKind.wrap_i64]; omega
          have hvv : v = q + (ez + pr) := by omega
          have hv0 : 0 ≤ v := by omega
          have hv1 : v ≤ 281474976710655 := by omega
          have hwi : IntKind.i64.wrap ((k : Int) + (j : Int)) = (k : Int) + (j : Int) := by rw [IntKind.wrap_i64]; omega
          have hi0 : (0 : Int) ≤ (k : Int) + (j : Int) := by omega
          have hi1 : ((k : Int) + (j : Int)).toNat = k + j := by omega
          have hi2 : (k : Int) + (j : Int) < ((M.dig x).length : Int) + ((M.dig y).length : Int) + 1 := by omega
          have hi3 : (k : Int) < ((M.dig x).length : Int) := by omega
          have hi4 : (0 : Int) ≤ (k : Int) := by omega
          have hbd : Below wr.heap.size wr wr.drew := belowN (Below.refl _ _) 1
          have HVV := Lib.hid hvv
          have hgwr : w.heap.size + 2 < wr.heap.size := lt_of_cell hcz
          clear hey hez' hpr hvv hs1 hv
          have htst : ∀ (P : Prop), ((decide (j < (M.dig y).length) = true) → P) → ((decide (j < (M.dig y).length) = false) → (decide (0 < q) = true) → P) → P := fun P h1 h2 => by
            by_cases h : j < (M.dig y).length
            · exact h1 (decide_eq_true h)
            · exact h2 (decide_eq_false h) (decide_eq_true (by rcases hgo with h' | h'; exact absurd h' h; exact h'))
          refine htst _ ?_ ?_
          · intro ht
            clear htst hgo
            go_wp2_with fail
            go_region_held3 (fun w' => w'.cell? ⟨w.heap.size, 0, none⟩ = some (.slice (some ⟨b1, o1, none⟩) (M.dig x).length ca) ∧ w'.cell? ⟨w.heap.size + 1, 0, none⟩ = some (.slice b (M.dig y).length cb) ∧ w'.cell? ⟨b1, o1 + k, none⟩ = some (.int .i64 ex) ∧ w'.cell? ⟨w.heap.size + 2, k + j, none⟩ = some (.int .i64 ez))
              (first | exact ⟨c0, c1, hcx, hcz⟩ | exact ⟨cell_below hbq c0, cell_below hbq c1, cell_below hbq hcx, cell_below hbq hcz⟩)
              (first
                | (go_at_call 72; (with_reducible refine HLB.out.mono ?_); rintro e wq ⟨rfl, hbq⟩))
            have hczq := cell_below hbq hcz
            have hfzq := frozen_below hbq hcz hfz
            have hbwq := hbd.trans (hbq.mono (Nat.le_refl _))
            have HOQ := Lib.hid (HOWN.out.below hbwq)
            have HBQ := Lib.hid (HBW.out.trans (hbwq.mono hsW))
            have hgwq : w.heap.size + 2 < wq.heap.size := lt_of_cell hczq
            clear hws hwv hwp hwi hbq hbwq hbd hcx hcz hfz c0 c1
            try clear hHeld
            go_wp2_with fail
            go_roundw
            case rel =>
              have hkj : k + j < zs.length := by rw [HLN.out]; omega
              refine ⟨j + 1, zs.set (k + j) (v % 16777216), v / 16777216, by go_num, rfl, by omega, by rw [List.length_set]; exact HLN.out, HLIM.out.set _ (by omega) (by omega), fun m hm => ?_, fun hj1 => ?_, by omega, by omega, fun hj1 => ?_, ?_, by simp only [List.length_set]; exact HOQ.out.set _ _, HBQ.out.setCell (p := ⟨w.heap.size + 2, k + j, none⟩) (by rw [HS2.out]; exact Nat.le_refl _) _⟩
              · rw [M.el_set _ _ _ _ hkj, if_neg (by omega)]; exact HZ.out m hm
              · rw [M.el_set _ _ _ _ hkj, if_neg (by omega)]; exact HZ1.out hjl
              · have hjy : j = (M.dig y).length := by omega
                have e1 := HEY.out
                rw [M.el_ge (by omega)] at e1
                have e2 := HEZ.out
                rw [hjy, HZ1.out hjl] at e2
                have e3 := HPR.out
                rw [← e1, Int.mul_zero] at e3
                have e4 := HVV.out
                omega
              · rw [M.val_set _ _ _ hkj, M.val_take_succ', ← Nat.add_assoc, Int.pow_succ, HVV.out, ← HPR.out, ← HEZ.out, ← HEY.out, ← HEX.out]
                exact M.mul_step (Int.pow_add ..) HVAL.out
            case measure => simp [intOf]; omega
          · intro ht ht2
            clear htst hgo
            go_wp2_with fail
            go_region_held3 (fun w' => w'.cell? ⟨w.heap.size, 0, none⟩ = some (.slice (some ⟨b1, o1, none⟩) (M.dig x).length ca) ∧ w'.cell? ⟨w.heap.size + 1, 0, none⟩ = some (.slice b (M.dig y).length cb) ∧ w'.cell? ⟨b1, o1 + k, none⟩ = some (.int .i64 ex) ∧ w'.cell? ⟨w.heap.size + 2, k + j, none⟩ = some (.int .i64 ez))
              (first | exact ⟨c0, c1, hcx, hcz⟩ | exact ⟨cell_below hbq c0, cell_below hbq c1, cell_below hbq hcx, cell_below hbq hcz⟩)
              (first
                | (go_at_call 72; (with_reducible refine HLB.out.mono ?_); rintro e wq ⟨rfl, hbq⟩))
            have hczq := cell_below hbq hcz
            have hfzq := frozen_below hbq hcz hfz
            have hbwq := hbd.trans (hbq.mono (Nat.le_refl _))
            have HOQ := Lib.hid (HOWN.out.below hbwq)
            have HBQ := Lib.hid (HBW.out.trans (hbwq.mono hsW))
            have hgwq : w.heap.size + 2 < wq.heap.size := lt_of_cell hczq
            clear hws hwv hwp hwi hbq hbwq hbd hcx hcz hfz c0 c1
            try clear hHeld
            go_wp2_with fail
            go_roundw
            case rel =>
              have hkj : k + j < zs.length := by rw [HLN.out]; omega
              refine ⟨j + 1, zs.set (k + j) (v % 16777216), v / 16777216, by go_num, rfl, by omega, by rw [List.length_set]; exact HLN.out, HLIM.out.set _ (by omega) (by omega), fun m hm => ?_, fun hj1 => ?_, by omega, by omega, fun hj1 => ?_, ?_, by simp only [List.length_set]; exact HOQ.out.set _ _, HBQ.out.setCell (p := ⟨w.heap.size + 2, k + j, none⟩) (by rw [HS2.out]; exact Nat.le_refl _) _⟩
              · rw [M.el_set _ _ _ _ hkj, if_neg (by omega)]; exact HZ.out m hm
              · rw [M.el_set _ _ _ _ hkj, if_neg (by omega)]; exact HZ1.out hjl
              · have hjy : j = (M.dig y).length := by omega
                have e1 := HEY.out
                rw [M.el_ge (by omega)] at e1
                have e2 := HEZ.out
                rw [hjy, HZ1.out hjl] at e2
                have e3 := HPR.out
                rw [← e1, Int.mul_zero] at e3
                have e4 := HVV.out
                omega
              · rw [M.val_set _ _ _ hkj, M.val_take_succ', ← Nat.add_assoc, Int.pow_succ, HVV.out, ← HPR.out, ← HEZ.out, ← HEY.out, ← HEX.out]
                exact M.mul_step (Int.pow_add ..) HVAL.out
            case measure => simp [intOf]; omega
        · have hj1 : ¬ j < (M.dig y).length := fun h => hgo (.inl h)
          have hq : q = 0 := by
            have : ¬ 0 < q := fun h => hgo (.inr h)
            omega
          subst hq
          have ht1 : decide (j < (M.dig y).length) = false := decide_eq_false hj1
          clear hgo hj1
          go_wp2_with fail
          go_roundw
          case rel =>
            refine ⟨k + 1, zs, by go_num, by omega, HLN.out, HLIM.out, fun m hm => HZ.out m (by omega), ?_, HOWN.out, HBW.out⟩
            have hv := HVAL.out
            rw [List.take_of_length_le (l := M.dig y) (by have := of_decide_eq_false ht1; omega), M.val_dig] at hv
            have := M.mul_row hv
            rw [M.val_take_succ']
            simpa using this
          case measure => simp [intOf]; omega
    · have hk' : k = (M.dig x).length := by omega
      have hend : M.trimL zs = M.dig (x * y) := by
        refine M.mul_end hlim ?_
        rw [hval, List.take_of_length_le (by omega), M.val_dig]
      have HE := Lib.hid hend
      have HLN := Lib.hid hlen
      have HOWN := Lib.hid hown
      have HBW := Lib.hid hbW
      have HS := HS2.out
      have hB := HBB.out.trans (hbW.mono HBB.out.size)
      have HB2 := Lib.hid hB
      clear hB hend hlen hlim hz hval hown hbW hrow hk'
      go_wp2_with fail
      go_ret
      exact ⟨w.heap.size + 2, zs, by rw [HLN.out]; rfl, HOWN.out.rowAt, HE.out, HB2.out⟩

set_option maxRecDepth 100000 in
set_option maxHeartbeats 1000000 in
theorem rMul_any (a b : Option Addr) (ca cb x y : Nat) (w : World) (hx200 : (M.dig x).length ≤ 200) (hy200 : (M.dig y).length ≤ 200) (hA : Row w a (M.dig x) ca) (hB : Row w b (M.dig y) cb) :
    Calls Tryd.prog 29 #[.agg #[.slice a (M.dig x).length ca], .agg #[.slice b (M.dig y).length cb]] w fun e W' => NatRes (x * y) e W' ∧ Below w.heap.size w W' := by
  have Hvx := Lib.hid (vld_dig hx200)
  have Hvy := Lib.hid (vld_dig hy200)
  have hb3 := boxes_below w (.slice a (M.dig x).length ca) (.slice b (M.dig y).length cb)
  have hs3 := boxes_size w (.slice a (M.dig x).length ca) (.slice b (M.dig y).length cb)
  obtain ⟨c0, c1, c2, f2⟩ := boxes_cells w (.slice a (M.dig x).length ca) (.slice b (M.dig y).length cb)
  have HA := Lib.hid (hA.below hb3)
  have HB := Lib.hid (hB.below hb3)
  have HB3 := Lib.hid hb3
  clear hA hB hb3
  go_enter Tryd.func29, Tryd.ntmps29
  go_wp2_with fail
  generalize hw3 : (((w.alloc (.cells #[.slice a (M.dig x).length ca] 24)).alloc (.cells #[.slice b (M.dig y).length cb] 24)).alloc (.cells #[.slice none 0 0] 24)) = w3
  obtain rfl : boxes w (.slice a (M.dig x).length ca) (.slice b (M.dig y).length cb) = w3 := hw3
  generalize boxes w (.slice a (M.dig x).length ca) (.slice b (M.dig y).length cb) = w3 at *
  (with_reducible refine (rvalid_yes a _ ca _ HA.out Hvx.out).mono ?_)
  rintro e w5 ⟨rfl, hb5⟩
  have HC := Lib.hid (And.intro c0 (And.intro c1 (And.intro c2 f2)))
  have d1 := cell_below hb5 c1
  have HB5 := Lib.hid hb5
  clear c0 c1 c2 f2 hb5
  go_wp2_with fail
  (with_reducible refine (rvalid_yes b _ cb _ (HB.out.below HB5.out) Hvy.out).mono ?_)
  rintro e w6 ⟨rfl, hb6⟩
  have hb36 := HB5.out.trans (hb6.mono HB5.out.size)
  have c0 := cell_below hb36 HC.out.1
  have c1 := cell_below hb36 HC.out.2.1
  have HB6 := Lib.hid hb36
  clear d1 hb6 hb36 HB5
  go_wp2_with fail
  (with_reducible refine (rmul_any a b ca cb x y w6 hx200 hy200 (HA.out.below HB6.out) (HB.out.below HB6.out)).mono ?_)
  rintro e w7 ⟨g, zs, rfl, hrz, hend, hb7⟩
  have HF := Lib.hid (rfit_trim g 0 zs zs.length (x * y) w7 hrz hend)
  have hb37 := HB6.out.trans (hb7.mono HB6.out.size)
  have HB7 := Lib.hid hb37
  clear hrz hend hb7 hb37 c0 c1
  go_wp2_with fail
  (with_reducible refine HF.out.mono ?_)
  rintro e w8 ⟨hres, hb8⟩
  have hb38 := HB7.out.trans (hb8.mono HB7.out.size)
  have d2 := cell_below hb38 HC.out.2.2.1
  have g2 := frozen_below hb38 HC.out.2.2.1 HC.out.2.2.2
  have HB8 := Lib.hid (HB3.out.trans (hb38.mono (by omega)))
  have hlt2 : w.heap.size + 1 + 1 < w7.heap.size := by have := HB7.out.size; omega
  clear hb8 hb38
  by_cases h200 : (M.dig (x * y)).length ≤ 200
  · obtain ⟨v, rfl, a7, p7, rfl, hr7, hf7⟩ := hres.ok h200
    have HR7 := Lib.hid hr7
    have HF7 := Lib.hid hf7
    clear hr7 hres hf7
    go_wp2_with fail
    refine bodyPost_ret (v := .tuple #[.agg #[.slice a7 (M.dig (x * y)).length p7], .int .i64 0]) (by simp [results, Tryd.results29, go_sem, d2]) rfl ⟨natRes_ok h200 ⟨a7, p7, rfl, ?_⟩, ?_⟩
    · exact HR7.out.setFresh HF7.out (p := ⟨w.heap.size + 1 + 1, 0, none⟩) hlt2 _
    · exact HB8.out.setCell (p := ⟨w.heap.size + 1 + 1, 0, none⟩) (by simp; omega) _
  · obtain rfl := hres.limit h200
    clear hres
    go_wp2_with fail
    refine bodyPost_ret (v := .tuple #[.agg #[.slice none 0 0], .int .i64 3]) (by simp [results, Tryd.results29, go_sem, d2]) rfl ⟨natRes_limit h200, ?_⟩
    exact HB8.out.setCell (p := ⟨w.heap.size + 1 + 1, 0, none⟩) (by simp; omega) _

/-- **ref01.Mul** of two numbers. -/
theorem rmul_num {u v : Value} {x y : Nat} {w : World} (hx : (M.dig x).length ≤ 200) (hy : (M.dig y).length ≤ 200) (hu : Num w u x) (hv : Num w v y) :
    Calls Tryd.prog 29 #[u, v] w fun e W' => NatRes (x * y) e W' ∧ Below w.heap.size w W' := by
  obtain ⟨a, ca, rfl, ha⟩ := hu
  obtain ⟨b, cb, rfl, hb⟩ := hv
  exact rMul_any a b ca cb x y w hx hy ha hb
end Go.Proofs.YtfaggdjoogpmmaaDoor
