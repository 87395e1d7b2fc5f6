/- ref05.Turn. -/
import Derived.Test.YtgaanojfjaifhaaBRef2
namespace Go.Proofs.Ytgaanojfjaifhaa.B
open Go Go.RowKit Go.Shelf
open BM (bt xs)

theorem M1.grownB {w W W' : World} {C : Int} {a : Option Addr} {ca : Nat} {R : List V} {B : Nat} (h : M1 w C a ca R W) (hb : Below B W W') (hB : w.heap.size + 1 + 1 ≤ B) : M1 w C a ca R W' := by
  have c : ∀ {q o : Nat} {v : Value}, q < B → W.cell? ⟨q, o, none⟩ = some v → W'.cell? ⟨q, o, none⟩ = some v := fun {q o v} hq hc => (hb.cell (p := ⟨q, o, none⟩) hq).trans hc
  have f : ∀ {q o : Nat} {t : Bool}, q < B → W.frozen? ⟨q, o, none⟩ = t → W'.frozen? ⟨q, o, none⟩ = t := fun {q o t} hq hc => (hb.frozen (p := ⟨q, o, none⟩) hq).trans hc
  exact ⟨⟨c (by omega) h.pa.c0, c (by omega) h.pa.c1, f (by omega) h.pa.f0, f (by omega) h.pa.f1⟩, ⟨c (by omega) h.pr.c0, c (by omega) h.pr.c1, f (by omega) h.pr.f0, f (by omega) h.pr.f1⟩,
    ⟨h.ra.room, h.ra.most, fun j hj => by
      obtain ⟨b, off, e, hc⟩ := h.ra.el j hj
      exact ⟨b, off, e, c (by have := h.fa b off e (by omega); omega) hc⟩⟩, h.below.trans (hb.mono (by omega)), Nat.le_trans h.size hb.size, h.fa⟩

set_option maxRecDepth 100000 in
set_option maxHeartbeats 1000000 in
/-- **ref05.Turn** -/
theorem rturn_any (C : Int) (a : Option Addr) (ca : Nat) (R : List V) (w : World) (hA : Row w a R ca) :
    Calls Try.prog 24 #[.agg #[.int .i64 C, .slice a R.length ca]] w fun e W => (∃ v, e = .returned (.tuple #[v, .int .i64 (turnE C R)]) ∧ MatR w.heap.size W v (turnC C R) (turnR C R)) ∧ Below w.heap.size w W := by
  have hS := M1.start (C := C) hA
  obtain ⟨w3, hw3⟩ : ∃ w3, ((w.alloc (.cells #[.int .i64 C, .slice a R.length ca] 24)).alloc (.cells #[.int .i64 0, .slice none 0 0] 24)) = w3 := ⟨_, rfl⟩
  rw [hw3] at hS
  have hv1 := rvalid_any C a ca R w3 hS.ra
  have a0 := hS.pa.c0
  have a1 := hS.pa.c1
  have HS := Lib.hid hS
  clear hA hS
  cases hva : validB C R with
  | false =>
    have e0 : turnE C R = 1 := by unfold turnE; rw [hva]; rfl
    have e1 : turnC C R = 0 := by unfold turnC; rw [hva]; rfl
    have e2 : turnR C R = [] := by unfold turnR; rw [hva]; rfl
    rw [e0, e1, e2]
    rw [hva] at hv1
    have H1 := Lib.hid hv1
    clear hv1 hva e0 e1 e2
    go_enter Try.func24, Try.ntmps24
    go_wp2_with fail
    refine H1.out.mono ?_
    rintro e w4 ⟨rfl, hb4⟩
    have S4 := HS.out.keep hb4
    obtain ⟨z1, z2, r1'⟩ := S4.stored 0 none 0 0
    have r0 := S4.pr.c0
    have r1 := S4.pr.c1
    have f0 := S4.pr.f0
    have f1 := S4.pr.f1
    have Z1 := Lib.hid z1
    have Z2 := Lib.hid z2
    clear z1 z2 S4 hb4
    go_wp2_with fail
    exact bodyPost_ret (v := .tuple #[.agg #[.int .i64 0, .slice none 0 0], .int .i64 1]) (by simp [results, Try.results24, go_sem, Z1.out.c0, Z1.out.c1]) rfl ⟨⟨_, rfl, MatR.none _ _⟩, Z2.out⟩
  | true =>
    obtain ⟨D, rfl, hM⟩ := MV.of hva
    have e0 : turnE D R = 0 := by unfold turnE; rw [hva]; rfl
    have e1 : turnC D R = R.length := by unfold turnC; rw [hva]; rfl
    have e2 : turnR D R = tab D (trF R R.length) := by unfold turnR; rw [hva, Int.toNat_natCast]; rfl
    rw [e0, e1, e2]
    rw [hva] at hv1
    have H1 := Lib.hid hv1
    have l1 := hM.r1
    have l2 := hM.r2
    have l3 := hM.c1
    have l4 := hM.c2
    clear hv1 hva e0 e1 e2
    go_enter Try.func24, Try.ntmps24
    go_wp2_with fail
    refine H1.out.mono ?_
    rintro e w5 ⟨rfl, hb4⟩
    have S5 := HS.out.keep hb4
    clear a0 a1 H1
    have a0 := S5.pa.c0
    have a1 := S5.pa.c1
    obtain ⟨y0, y1, y2, y3⟩ := box0 w5
    have hsz5 := S5.size
    have hmk : Mk w (w5.alloc (.cells #[.int .i64 (R.length : Int), .slice none 0 0] 24)) w5.heap.size (w5.heap.size + 1) R.length [] :=
      ⟨⟨none, 0, MBox.new w5 (R.length : Int) none 0 0 _, Own.nil _ _⟩, S5.below.alloc (by omega) _, by simp, by omega, by omega⟩
    have S6 := S5.keep ((Below.refl _ w5).alloc (Nat.le_refl _) (.cells #[.int .i64 (R.length : Int), .slice none 0 0] 24))
    have HMK := Lib.hid hmk
    have HS6 := Lib.hid S6
    clear S5 S6 hmk hb4 HS
    go_wp2_with fail
    clear y0 y1 y2 y3 a0 a1
    go_loopw [5, 6, 7] (fun i _ _ wr => ∃ k : Nat, i = .int .i64 (k : Int) ∧ k ≤ D ∧ Mk w wr w5.heap.size (w5.heap.size + 1) R.length (tab k (trF R R.length)) ∧ M1 w D a ca R wr) (fun i _ _ _ => D - (intOf i).toNat)
    case atStart => exact ⟨0, rfl, Nat.zero_le _, HMK.out, HS6.out⟩
    case round =>
      clear HMK HS6
      obtain ⟨k, rfl, hk, hmk, hS⟩ := hrel
      have a0 := hS.pa.c0
      have HMK := Lib.hid hmk
      have HS := Lib.hid hS
      by_cases hlt : k < D
      · clear hmk
        have a1 := hS.pa.c1
        have hra := hS.ra.room
        have hra2 := hS.ra.most
        clear hS
        go_wp2_with fail
        go_loopw [6, 7] (fun x i wq => ∃ t : Nat, i = .int .i64 (t : Int) ∧ t ≤ R.length ∧ x = .int .u64 ((trF R t k).toNat : Int) ∧ wq = wr) (fun _ i _ => R.length - (intOf i).toNat)
        case atStart => exact ⟨0, rfl, Nat.zero_le _, rfl, rfl⟩
        case round =>
          obtain ⟨t, rfl, ht, rfl, hwq⟩ := hrel
          subst hwq
          by_cases hlt2 : t < R.length
          · obtain ⟨ab, ao, rfl, hcell⟩ := HS.out.ra.elV t hlt2
            have hbit := bit_V (el R t) k
            rw [Nat.min_eq_left (show k ≤ 64 by omega)] at hbit
            go_wp2_with fail
            go_roundw
            case rel =>
              refine ⟨t + 1, by go_num, hlt2, u64_v ?_, by first | rfl | trivial⟩
              rw [shl_V, or_V, trF_succ]
            case measure => simp [intOf]; omega
          · obtain rfl : t = R.length := by omega
            obtain ⟨aa, cc, hbx, ho⟩ := HMK.out.box
            obtain ⟨y, hy⟩ : ∃ y, trF R R.length k = y := ⟨_, rfl⟩
            rw [hy]
            have HY := Lib.hid hy
            have m1 := hbx.c1
            have mf := hbx.f1
            have k1 := cell_later (.cells #[.int .u64 (y.toNat : Int)] 25) m1
            have HBB := Lib.hid hbx
            have HO := Lib.hid ho
            have hsz := HMK.out.size
            have hlen : (tab k (trF R R.length)).length < 1000000 := by rw [tab_len]; omega
            clear hy hbx ho
            go_wp2_with (at_builtin; refine wpList_app1 (α := V) rfl _ _ rfl y (by rfl) (HO.out.alloc (.cells #[.int .u64 (y.toNat : Int)] 25)) rfl (cell_new _ _ _) hlen (by simp; omega) ?_; intro a3 cap3 w6 hown3 hg3 hb3 hw3; have k2 := (hb3.cell (p := ⟨w5.heap.size, 1, none⟩) (by show w5.heap.size < _; omega)).trans k1; have k3 := (hb3.frozen (p := ⟨w5.heap.size, 1, none⟩) (by show w5.heap.size < _; omega)).trans (frozen_later _ m1 mf); have HO3 := Lib.hid hown3; have HB3 := Lib.hid hb3; clear hown3 hg3 hb3 hw3)
            go_roundw
            case rel =>
              have hbb := ((Below.refl (w5.heap.size + 1) _).alloc hsz (.cells #[.int .u64 (y.toNat : Int)] 25)).trans HB3.out
              have hpush := HMK.out.push HBB.out HO3.out hbb
              rw [← HY.out, tab_snoc] at hpush
              refine ⟨k + 1, by go_num, hlt, hpush, (HS.out.grownB hbb (by omega)).other (by omega) _ _⟩
            case measure => simp [intOf]; omega
      · obtain rfl : k = D := by omega
        obtain ⟨aa, cc, hbx, ho⟩ := hmk.box
        have m0 := hbx.c0
        have m1 := hbx.c1
        obtain ⟨z1, z2, r1'⟩ := hS.stored R.length aa (tab k (trF R R.length)).length cc
        have r0 := hS.pr.c0
        have r1 := hS.pr.c1
        have f0 := hS.pr.f0
        have f1 := hS.pr.f1
        have HO := Lib.hid ho
        have Z1 := Lib.hid z1
        have Z2 := Lib.hid z2
        clear hS hbx ho z1 z2 hmk
        go_wp2_with fail
        refine bodyPost_ret (v := .tuple #[.agg #[.int .i64 (R.length : Int), .slice aa (tab k (trF R R.length)).length cc], .int .i64 0]) (by simp [results, Try.results24, go_sem, Z1.out.c0, Z1.out.c1]) rfl ⟨⟨_, rfl, aa, cc, rfl, ?_, ?_⟩, Z2.out⟩
        · exact HO.out.rowAt.boxed HS.out.pr
        · intro b' o' e
          subst e
          rcases HO.out.parts with ⟨e2, _⟩ | ⟨g, c2, e2, hB, _⟩
          · cases e2
          · cases e2; omega
end Go.Proofs.Ytgaanojfjaifhaa.B
