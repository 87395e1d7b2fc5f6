/- hash.Spread, ref10.Spread. -/
import Derived.Test.YtodiokladojnjaaHsI
import Derived.Test.YtodiokladojnjaaHsM
namespace Go.Proofs.Ytodiokladojnjaa.B
open Go Go.RowKit Go.Shelf

theorem fit_lt {v : V} {n : Nat} (h : fitB v n = true) : v.toNat < 2 ^ n := by
  unfold fitB at h
  have h2 := congrArg BitVec.toNat (beq_iff_eq.1 h)
  rw [BitVec.toNat_ushiftRight, Nat.shiftRight_eq_div_pow] at h2
  exact (Nat.div_eq_zero_iff_lt (Nat.two_pow_pos n)).1 (h2.trans rfl)
/-- Address k. -/
def adr (p q k : Nat) : V := BitVec.ofNat 64 (p + k * q)
theorem adr_nat {p q k : Nat} (hp : p ≤ 1048576) (hq : q ≤ 1048576) (hk : k ≤ 4096) : ((adr p q k).toNat : Int) = (p : Int) + (k : Int) * (q : Int) := by
  have h1 : k * q ≤ 4096 * 1048576 := Nat.mul_le_mul hk hq
  unfold adr
  rw [BitVec.toNat_ofNat, Nat.mod_eq_of_lt (by omega), Int.natCast_add, Int.natCast_mul]
def spF (R : List V) (p q k : Nat) : Nat := (valV R (adr p q k)).toNat
theorem spF_lt (R : List V) (p q k : Nat) : spF R p q k < 2 ^ R.length := fit_lt (valV_fit R _)
attribute [irreducible] spF
def bad3 (x y z : Int) : Prop := x < 0 ∨ 1048576 < x ∨ y < 0 ∨ 1048576 < y ∨ z < 0 ∨ 4096 < z
instance (x y z : Int) : Decidable (bad3 x y z) := by unfold bad3; infer_instance
def sprE (R : List V) (x y z : Int) : Int := if 12 < R.length then 7 else if bad3 x y z then 2 else 0
def sprL (R : List V) (x y z : Int) : List Nat := if sprE R x y z = 0 then tab (2 ^ R.length) (fun v => HS.cnt (spF R x.toNat y.toNat) v z.toNat) else []
/-- A slice of numbers in memory, from block B on. -/
def SlN (B : Nat) (W : World) (v : Value) (L : List Nat) : Prop := ∃ a c, v = .slice a L.length c ∧ Row W a L c ∧ ∀ b o, a = some ⟨b, o, none⟩ → B ≤ b
theorem SlN.nil (B : Nat) (W : World) : SlN B W (.slice none 0 0) [] := ⟨none, 0, rfl, Row.nil _ _ _ (by omega), fun b o e => by cases e⟩
/-- A slice of numbers in memory. -/
def SlM (W : World) (v : Value) (L : List Nat) : Prop := ∃ a c, v = .slice a L.length c ∧ Row W a L c
theorem SlM.below {W W' : World} {v : Value} {L : List Nat} (h : SlM W v L) (hb : Below W.heap.size W W') : SlM W' v L := by
  obtain ⟨a, c, e, h⟩ := h; exact ⟨a, c, e, h.below hb⟩
theorem SlN.sm {B : Nat} {W : World} {v : Value} {L : List Nat} (h : SlN B W v L) : SlM W v L := by obtain ⟨a, c, e, h, _⟩ := h; exact ⟨a, c, e, h⟩
theorem Own.cellN {W : World} {B g cap n : Nat} {zs : List Nat} (h : Own W B (.slice (some ⟨g, 0, none⟩) n cap) zs) (k : Nat) (hk : k < zs.length) : W.cell? ⟨g, k, none⟩ = some (.int .i64 ((el zs k : Nat) : Int)) := (h.at k hk).2.2.2.2.1
theorem Own.setN {W : World} {B n : Nat} {g cap : Nat} {zs : List Nat} (h : Own W B (.slice (some ⟨g, 0, none⟩) n cap) zs) (j : Nat) (c : Nat) : Own (W.setCell ⟨g, j, none⟩ (.int .i64 (c : Int))) B (.slice (some ⟨g, 0, none⟩) n cap) (zs.set j c) := h.set j c
theorem cnt_tab {f : Nat → Nat} {N k : Nat} (h : f k < N) : (tab N (fun v => HS.cnt f v k)).set (f k) (HS.cnt f (f k) k + 1) = tab N (fun v => HS.cnt f v (k + 1)) := by
  refine el_ext (by rw [List.length_set, tab_len, tab_len]) (fun j hj => ?_)
  rw [List.length_set, tab_len] at hj
  rw [el_set (by rw [tab_len]; exact h), el_tab _ _ _ hj, el_tab _ _ _ hj]
  by_cases e : j = f k
  · rw [if_pos e, e, HS.cnt_yes rfl]
  · rw [if_neg e, HS.cnt_no (fun e' => e e'.symm)]

set_option maxRecDepth 100000 in
theorem bound_any (x m : Int) (w : World) :
    Calls Try.prog 31 #[.int .i64 x, .int .i64 m] w fun e W => e = .returned (.bool (decide (x < 0) || decide (m < x))) ∧ W = w := by
  by_cases h : x < 0
  · go_enter Try.func31, Try.ntmps31
    go_wp2_with fail
    go_ret
    exact ⟨by simp [h], rfl⟩
  · have hd : decide (x < 0) = false := decide_eq_false h
    rw [hd]
    go_enter Try.func31, Try.ntmps31
    go_wp2_with fail
    go_ret
    exact ⟨by simp, rfl⟩

theorem shl_small (b : Nat) (hb : b ≤ 12) : wrap64 (2 ^ b) = ((2 ^ b : Nat) : Int) := by
  have h1 : (2 : Nat) ^ b ≤ 4096 := Nat.pow_le_pow_right (by decide) hb
  have h2 : ((2 : Int) ^ b) = ((2 ^ b : Nat) : Int) := by rw [Int.natCast_pow]; rfl
  rw [h2]
  generalize 2 ^ b = n at *
  unfold wrap64
  omega
set_option maxRecDepth 100000 in
set_option maxHeartbeats 1000000 in
theorem spread_any (a : Option Addr) (cap : Nat) (R : List V) (x y z : Int) (w : World) (hR : Row w a R cap) :
    Calls Try.prog 13 #[.slice a R.length cap, .int .i64 x, .int .i64 y, .int .i64 z] w fun e W => (∃ v, e = .returned (.tuple #[v, .int .i64 (sprE R x y z)]) ∧ SlN w.heap.size W v (sprL R x y z)) ∧ Below w.heap.size w W := by
  have hroom := hR.room
  have hmost := hR.most
  by_cases h12 : 12 < R.length
  · have hE : sprE R x y z = 7 := by unfold sprE; rw [if_pos h12]
    have hL : sprL R x y z = [] := by unfold sprL; rw [hE, if_neg (by decide)]
    rw [hE, hL]
    clear hE hL
    go_enter Try.func13, Try.ntmps13
    go_wp2_with fail
    exact bodyPost_ret (v := .tuple #[.slice none 0 0, .int .i64 7]) (by simp [results, Try.results13, go_sem]) rfl ⟨⟨_, rfl, SlN.nil _ _⟩, Below.refl _ _⟩
  have HR := Lib.hid hR
  clear hR
  obtain ⟨b0, hb0⟩ : ∃ b0, (decide (x < 0) || decide (1048576 < x)) = b0 := ⟨_, rfl⟩
  obtain ⟨b1, hb1⟩ : ∃ b1, (decide (y < 0) || decide (1048576 < y)) = b1 := ⟨_, rfl⟩
  obtain ⟨b2, hb2⟩ : ∃ b2, (decide (z < 0) || decide (4096 < z)) = b2 := ⟨_, rfl⟩
  have hB0 := bound_any x 1048576 w
  have hB1 := bound_any y 1048576 w
  have hB2 := bound_any z 4096 w
  rw [hb0] at hB0
  rw [hb1] at hB1
  rw [hb2] at hB2
  have HB0 := Lib.hid hB0
  have HB1 := Lib.hid hB1
  have HB2 := Lib.hid hB2
  clear hB0 hB1 hB2
  have hbad : bad3 x y z ↔ (b0 || (b1 || b2)) = true := by
    unfold bad3
    rw [← hb0, ← hb1, ← hb2]
    simp only [Bool.or_eq_true, decide_eq_true_eq]
    constructor
    · rintro (h | h | h | h | h | h) <;> simp [h]
    · rintro ((h | h) | (h | h) | (h | h)) <;> simp [h]
  clear hb0 hb1 hb2
  cases b0 with
  | true =>
    have hE : sprE R x y z = 2 := by unfold sprE; rw [if_neg h12, if_pos (hbad.2 rfl)]
    have hL : sprL R x y z = [] := by unfold sprL; rw [hE, if_neg (by decide)]
    rw [hE, hL]
    clear hE hL
    clear hbad
    go_enter Try.func13, Try.ntmps13
    go_wp2_with fail
    refine HB0.out.mono ?_
    rintro e w4 ⟨rfl, hw⟩
    obtain rfl := hw.symm
    go_wp2_with fail
    exact bodyPost_ret (v := .tuple #[.slice none 0 0, .int .i64 2]) (by simp [results, Try.results13, go_sem]) rfl ⟨⟨_, rfl, SlN.nil _ _⟩, Below.refl _ _⟩
  | false =>
    cases b1 with
    | true =>
      have hE : sprE R x y z = 2 := by unfold sprE; rw [if_neg h12, if_pos (hbad.2 rfl)]
      have hL : sprL R x y z = [] := by unfold sprL; rw [hE, if_neg (by decide)]
      rw [hE, hL]
      clear hE hL
      clear hbad
      go_enter Try.func13, Try.ntmps13
      go_wp2_with fail
      refine HB0.out.mono ?_
      rintro e w4 ⟨rfl, hw⟩
      obtain rfl := hw.symm
      go_wp2_with fail
      refine HB1.out.mono ?_
      rintro e w5 ⟨rfl, hw⟩
      obtain rfl := hw.symm
      go_wp2_with fail
      exact bodyPost_ret (v := .tuple #[.slice none 0 0, .int .i64 2]) (by simp [results, Try.results13, go_sem]) rfl ⟨⟨_, rfl, SlN.nil _ _⟩, Below.refl _ _⟩
    | false =>
      cases b2 with
      | true =>
        have hE : sprE R x y z = 2 := by unfold sprE; rw [if_neg h12, if_pos (hbad.2 rfl)]
        have hL : sprL R x y z = [] := by unfold sprL; rw [hE, if_neg (by decide)]
        rw [hE, hL]
        clear hE hL
        clear hbad
        go_enter Try.func13, Try.ntmps13
        go_wp2_with fail
        refine HB0.out.mono ?_
        rintro e w4 ⟨rfl, hw⟩
        obtain rfl := hw.symm
        go_wp2_with fail
        refine HB1.out.mono ?_
        rintro e w5 ⟨rfl, hw⟩
        obtain rfl := hw.symm
        go_wp2_with fail
        refine HB2.out.mono ?_
        rintro e w6 ⟨rfl, hw⟩
        obtain rfl := hw.symm
        go_wp2_with fail
        exact bodyPost_ret (v := .tuple #[.slice none 0 0, .int .i64 2]) (by simp [results, Try.results13, go_sem]) rfl ⟨⟨_, rfl, SlN.nil _ _⟩, Below.refl _ _⟩
      | false =>
        have hnb : ¬ bad3 x y z := fun h => by cases hbad.1 h
        clear hbad
        have hE : sprE R x y z = 0 := by unfold sprE; rw [if_neg h12, if_neg hnb]
        obtain ⟨p, rfl⟩ : ∃ p : Nat, x = (p : Int) := ⟨x.toNat, by unfold bad3 at hnb; omega⟩
        obtain ⟨q, rfl⟩ : ∃ q : Nat, y = (q : Int) := ⟨y.toNat, by unfold bad3 at hnb; omega⟩
        obtain ⟨n, rfl⟩ : ∃ n : Nat, z = (n : Int) := ⟨z.toNat, by unfold bad3 at hnb; omega⟩
        have hL : sprL R p q n = tab (2 ^ R.length) (fun v => HS.cnt (spF R p q) v n) := by unfold sprL; rw [hE, if_pos rfl, Int.toNat_natCast, Int.toNat_natCast, Int.toNat_natCast]
        have hp : p ≤ 1048576 := by unfold bad3 at hnb; omega
        have hq : q ≤ 1048576 := by unfold bad3 at hnb; omega
        have hn : n ≤ 4096 := by unfold bad3 at hnb; omega
        have hlt : ∀ k, spF R p q k < 2 ^ R.length := spF_lt R p q
        have hsh := shl_small R.length (by omega)
        rw [hE, hL]
        clear hE hL hnb
        obtain ⟨N, hN⟩ : ∃ N : Nat, 2 ^ R.length = N := ⟨_, rfl⟩
        have hN2 : N ≤ 4096 := by rw [← hN]; exact Nat.pow_le_pow_right (n := 2) (i := R.length) (j := 12) (by decide) (by omega)
        rw [hN] at hlt hsh ⊢
        have HLT := Lib.hid hlt
        clear hlt hN
        go_enter Try.func13, Try.ntmps13
        go_wp2_with fail
        refine HB0.out.mono ?_
        rintro e w4 ⟨rfl, hw⟩
        obtain rfl := hw.symm
        go_wp2_with fail
        refine HB1.out.mono ?_
        rintro e w5 ⟨rfl, hw⟩
        obtain rfl := hw.symm
        go_wp2_with fail
        refine HB2.out.mono ?_
        rintro e w6 ⟨rfl, hw⟩
        obtain rfl := hw.symm
        go_wp2_with (at_make; refine wpList_make1 (α := Nat) rfl _ _ rfl N rfl rfl hsh (by omega) (B := w.heap.size) (Nat.le_refl _) ?_; intro w8 hown8 hb8; have HO8 := Lib.hid hown8; have HB8 := Lib.hid hb8; have HR8 := Lib.hid (HR.out.below hb8); rw [hsh]; clear hown8 hb8)
        clear HB0 HB1 HB2
        go_loopw [12, 34] (fun _ i wr => ∃ k : Nat, i = .int .i64 (k : Int) ∧ k ≤ n ∧ Own wr w.heap.size (.slice (some ⟨w.heap.size, 0, none⟩) N N) (tab N (fun v => HS.cnt (spF R p q) v k)) ∧ Row wr a R cap ∧ Below w.heap.size w wr) (fun _ i _ => n - (intOf i).toNat)
        case atStart => exact ⟨0, rfl, Nat.zero_le _, by have := HO8.out; rw [tab_replicate, show (fun _ : Nat => (Elt.z : Nat)) = fun v => HS.cnt (spF R p q) v 0 from funext (fun v => (HS.cnt_zero _ v).symm)] at this; exact this, HR8.out, HB8.out⟩
        case round =>
          obtain ⟨k, rfl, hk, ho, hr, hb⟩ := hrel
          have HO := Lib.hid ho
          have HRr := Lib.hid hr
          have HBr := Lib.hid hb
          clear ho hr hb HO8 HR8 HB8
          by_cases hkn : k < n
          · have hv := value_any a cap R (adr p q k) wr HRr.out
            have hadr := adr_nat hp hq (show k ≤ 4096 by omega)
            have hkq : k * q ≤ 4096 * 1048576 := Nat.mul_le_mul (by omega) hq
            have hadr2 : IntKind.u64.wrap ((p : Int) + IntKind.u64.wrap ((k : Int) * (q : Int))) = ((adr p q k).toNat : Int) := by
              rw [hadr, ← Int.natCast_mul, u64_wrap _ (by omega), ← Int.natCast_add, u64_wrap _ (by omega)]
            obtain ⟨ad, had⟩ : ∃ ad : Int, ((adr p q k).toNat : Int) = ad := ⟨_, rfl⟩
            rw [show (valV R (adr p q k)).toNat = spF R p q k by unfold spF; rfl] at hv
            rw [had] at hv hadr2
            obtain ⟨i, hi⟩ : ∃ i, spF R p q k = i := ⟨_, rfl⟩
            have hiN : i < N := by rw [← hi]; exact HLT.out k
            rw [hi] at hv
            obtain ⟨c, hc⟩ : ∃ c, HS.cnt (spF R p q) i k = c := ⟨_, rfl⟩
            have hc4 : c ≤ 4096 := by rw [← hc]; exact Nat.le_trans (HS.cnt_le _ _ _) (by omega)
            have HSET := Lib.hid (show (tab N (fun v => HS.cnt (spF R p q) v k)).set i (c + 1) = tab N (fun v => HS.cnt (spF R p q) v (k + 1)) by rw [← hc, ← hi]; exact cnt_tab (HLT.out k))
            have hel : el (tab N (fun v => HS.cnt (spF R p q) v k)) i = c := by rw [el_tab _ _ _ hiN]; exact hc
            have HEL := Lib.hid hel
            have HV := Lib.hid hv
            clear hv hadr had hi hc hel hkq
            go_wp2_with fail
            refine HV.out.mono ?_
            rintro e w9 ⟨rfl, hb9⟩
            have ho9 := HO.out.below hb9
            have HR9 := Lib.hid (HRr.out.below hb9)
            have HB9 := Lib.hid (HBr.out.trans (hb9.mono HBr.out.size))
            have hc9 := ho9.cellN i (by rw [tab_len]; exact hiN)
            have hf9 := ho9.free i (by rw [tab_len]; exact hiN)
            rw [HEL.out] at hc9
            have HO9 := Lib.hid ho9
            clear ho9 hb9 HV
            go_wp2_with fail
            go_roundw
            case rel =>
              have hset := HO9.out.setN i (c + 1)
              rw [HSET.out] at hset
              exact ⟨k + 1, by go_num, by omega, hset, HR9.out.other _ (fun b off e h0 => by subst e; exact Nat.ne_of_lt (HR.out.lt h0)), HB9.out.setCell (p := ⟨w.heap.size, i, none⟩) (Nat.le_refl _) _⟩
            case measure => simp [intOf]; omega
          · obtain rfl : k = n := by omega
            go_wp2_with fail
            exact bodyPost_ret (v := .tuple #[.slice (some ⟨w.heap.size, 0, none⟩) N N, .int .i64 0]) (by simp [results, Try.results13, go_sem]) rfl ⟨⟨_, rfl, some ⟨w.heap.size, 0, none⟩, N, by rw [tab_len], HO.out.rowAt, fun b o e => by cases e; exact Nat.le_refl _⟩, HBr.out⟩
end Go.Proofs.Ytodiokladojnjaa.B
