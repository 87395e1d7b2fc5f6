/- ref10.Spread, law10.sameInts. -/
import Derived.Test.YtodiokladojnjaaHsS
import Derived.Test.YtodiokladojnjaaBSame
namespace Go.Proofs.Ytodiokladojnjaa.B
open Go Go.RowKit Go.Shelf

set_option maxRecDepth 100000 in
set_option maxHeartbeats 8000000 in
theorem rspread_any (a : Option Addr) (cap : Nat) (R : List V) (x y z : Int) (w : World) (hR : Row w a R cap) :
    Calls Try.prog 14 #[.slice a R.length cap, .int .i64 x, .int .i64 y, .int .i64 z] w fun e W => (∃ v, e = .returned (.tuple #[v, .int .i64 (sprE R x y z)]) ∧ SlN w.heap.size W v (sprL R x y z)) ∧ Below w.heap.size w W := by
  have hroom := hR.room
  have hmost := hR.most
  by_cases h12 : 12 < R.length
  · have hE : sprE R x y z = 7 := by unfold sprE; rw [if_pos h12]
    have hL : sprL R x y z = [] := by unfold sprL; rw [hE, if_neg (by decide)]
    rw [hE, hL]
    clear hE hL
    go_enter Try.func14, Try.ntmps14
    go_wp2_with fail
    exact bodyPost_ret (v := .tuple #[.slice none 0 0, .int .i64 7]) (by simp [results, Try.results14, go_sem]) rfl ⟨⟨_, rfl, SlN.nil _ _⟩, Below.refl _ _⟩
  have HR := Lib.hid hR
  clear hR
  by_cases h0 : x < 0
  · have hE : sprE R x y z = 2 := by unfold sprE; rw [if_neg h12, if_pos (show bad3 x y z from .inl h0)]
    have hL : sprL R x y z = [] := by unfold sprL; rw [hE, if_neg (by decide)]
    rw [hE, hL]
    clear hE hL
    go_enter Try.func14, Try.ntmps14
    go_wp2_with fail
    exact bodyPost_ret (v := .tuple #[.slice none 0 0, .int .i64 2]) (by simp [results, Try.results14, go_sem]) rfl ⟨⟨_, rfl, SlN.nil _ _⟩, Below.refl _ _⟩
  by_cases h1 : 1048576 < x
  · have hE : sprE R x y z = 2 := by unfold sprE; rw [if_neg h12, if_pos (show bad3 x y z from .inr (.inl h1))]
    have hL : sprL R x y z = [] := by unfold sprL; rw [hE, if_neg (by decide)]
    rw [hE, hL]
    clear hE hL
    go_enter Try.func14, Try.ntmps14
    go_wp2_with fail
    exact bodyPost_ret (v := .tuple #[.slice none 0 0, .int .i64 2]) (by simp [results, Try.results14, go_sem]) rfl ⟨⟨_, rfl, SlN.nil _ _⟩, Below.refl _ _⟩
  by_cases h2 : y < 0
  · have hE : sprE R x y z = 2 := by unfold sprE; rw [if_neg h12, if_pos (show bad3 x y z from .inr (.inr (.inl h2)))]
    have hL : sprL R x y z = [] := by unfold sprL; rw [hE, if_neg (by decide)]
    rw [hE, hL]
    clear hE hL
    go_enter Try.func14, Try.ntmps14
    go_wp2_with fail
    exact bodyPost_ret (v := .tuple #[.slice none 0 0, .int .i64 2]) (by simp [results, Try.results14, go_sem]) rfl ⟨⟨_, rfl, SlN.nil _ _⟩, Below.refl _ _⟩
  by_cases h3 : 1048576 < y
  · have hE : sprE R x y z = 2 := by unfold sprE; rw [if_neg h12, if_pos (show bad3 x y z from .inr (.inr (.inr (.inl h3))))]
    have hL : sprL R x y z = [] := by unfold sprL; rw [hE, if_neg (by decide)]
    rw [hE, hL]
    clear hE hL
    go_enter Try.func14, Try.ntmps14
    go_wp2_with fail
    exact bodyPost_ret (v := .tuple #[.slice none 0 0, .int .i64 2]) (by simp [results, Try.results14, go_sem]) rfl ⟨⟨_, rfl, SlN.nil _ _⟩, Below.refl _ _⟩
  by_cases h4 : z < 0
  · have hE : sprE R x y z = 2 := by unfold sprE; rw [if_neg h12, if_pos (show bad3 x y z from .inr (.inr (.inr (.inr (.inl h4)))))]
    have hL : sprL R x y z = [] := by unfold sprL; rw [hE, if_neg (by decide)]
    rw [hE, hL]
    clear hE hL
    go_enter Try.func14, Try.ntmps14
    go_wp2_with fail
    exact bodyPost_ret (v := .tuple #[.slice none 0 0, .int .i64 2]) (by simp [results, Try.results14, go_sem]) rfl ⟨⟨_, rfl, SlN.nil _ _⟩, Below.refl _ _⟩
  by_cases h5 : 4096 < z
  · have hE : sprE R x y z = 2 := by unfold sprE; rw [if_neg h12, if_pos (show bad3 x y z from .inr (.inr (.inr (.inr (.inr h5)))))]
    have hL : sprL R x y z = [] := by unfold sprL; rw [hE, if_neg (by decide)]
    rw [hE, hL]
    clear hE hL
    go_enter Try.func14, Try.ntmps14
    go_wp2_with fail
    exact bodyPost_ret (v := .tuple #[.slice none 0 0, .int .i64 2]) (by simp [results, Try.results14, go_sem]) rfl ⟨⟨_, rfl, SlN.nil _ _⟩, Below.refl _ _⟩
  have hnb : ¬ bad3 x y z := by rintro (h | h | h | h | h | h) <;> contradiction
  have hE : sprE R x y z = 0 := by unfold sprE; rw [if_neg h12, if_neg hnb]
  obtain ⟨p, rfl⟩ : ∃ p : Nat, x = (p : Int) := ⟨x.toNat, by unfold bad3 at hnb; omega⟩
  obtain ⟨q, rfl⟩ : ∃ q : Nat, y = (q : Int) := ⟨y.toNat, by unfold bad3 at hnb; omega⟩
  obtain ⟨n, rfl⟩ : ∃ n : Nat, z = (n : Int) := ⟨z.toNat, by unfold bad3 at hnb; omega⟩
  have hL : sprL R p q n = tab (2 ^ R.length) (fun v => HS.cnt (spF R p q) v n) := by unfold sprL; rw [hE, if_pos rfl, Int.toNat_natCast, Int.toNat_natCast, Int.toNat_natCast]
  have hp : p ≤ 1048576 := by unfold bad3 at hnb; omega
  have hq : q ≤ 1048576 := by unfold bad3 at hnb; omega
  have hn : n ≤ 4096 := by unfold bad3 at hnb; omega
  have hlt : ∀ k, spF R p q k < 2 ^ R.length := spF_lt R p q
  have hsh := shl_small R.length (by omega)
  rw [hE, hL]
  clear hE hL hnb
  obtain ⟨N, hN⟩ : ∃ N : Nat, 2 ^ R.length = N := ⟨_, rfl⟩
  have hN2 : N ≤ 4096 := by rw [← hN]; exact Nat.pow_le_pow_right (n := 2) (i := R.length) (j := 12) (by decide) (by omega)
  rw [hN] at hlt hsh ⊢
  have HLT := Lib.hid hlt
  clear hlt hN
  go_enter Try.func14, Try.ntmps14
  go_wp2_with (at_make; refine wpList_make1 (α := Nat) rfl _ _ rfl N rfl rfl hsh (by omega) (B := w.heap.size) (Nat.le_refl _) ?_; intro w8 hown8 hb8; have HO8 := Lib.hid hown8; have HB8 := Lib.hid hb8; have HR8 := Lib.hid (HR.out.below hb8); rw [hsh]; clear hown8 hb8)
  go_loopw [11] (fun i wr => ∃ k : Nat, i = .int .i64 (k : Int) ∧ k ≤ n ∧ Own wr w.heap.size (.slice (some ⟨w.heap.size, 0, none⟩) N N) (tab N (fun v => HS.cnt (spF R p q) v k)) ∧ Row wr a R cap ∧ Below w.heap.size w wr) (fun i _ => n - (intOf i).toNat)
  case atStart => exact ⟨0, rfl, Nat.zero_le _, by have := HO8.out; rw [tab_replicate, show (fun _ : Nat => (Elt.z : Nat)) = fun v => HS.cnt (spF R p q) v 0 from funext (fun v => (HS.cnt_zero _ v).symm)] at this; exact this, HR8.out, HB8.out⟩
  case round =>
    obtain ⟨k, rfl, hk, ho, hr, hb⟩ := hrel
    have HO := Lib.hid ho
    have HRr := Lib.hid hr
    have HBr := Lib.hid hb
    clear ho hr hb HO8 HR8 HB8
    by_cases hkn : k < n
    · have hv := rvalue_any a cap R (adr p q k) wr HRr.out
      have hadr := adr_nat hp hq (show k ≤ 4096 by omega)
      have hkq : k * q ≤ 4096 * 1048576 := Nat.mul_le_mul (by omega) hq
      have hadr2 : IntKind.u64.wrap (wrap64 ((p : Int) + wrap64 ((k : Int) * (q : Int)))) = ((adr p q k).toNat : Int) := by
        rw [hadr, ← Int.natCast_mul, wrap64_id _ (by omega), ← Int.natCast_add, wrap64_id _ (by omega), u64_wrap _ (by omega)]
      obtain ⟨ad, had⟩ : ∃ ad : Int, ((adr p q k).toNat : Int) = ad := ⟨_, rfl⟩
      rw [show (valV R (adr p q k)).toNat = spF R p q k by unfold spF; rfl] at hv
      rw [had] at hv hadr2
      obtain ⟨i, hi⟩ : ∃ i, spF R p q k = i := ⟨_, rfl⟩
      have hiN : i < N := by rw [← hi]; exact HLT.out k
      rw [hi] at hv
      obtain ⟨c, hc⟩ : ∃ c, HS.cnt (spF R p q) i k = c := ⟨_, rfl⟩
      have hc4 : c ≤ 4096 := by rw [← hc]; exact Nat.le_trans (HS.cnt_le _ _ _) (by omega)
      have HSET := Lib.hid (show (tab N (fun v => HS.cnt (spF R p q) v k)).set i (c + 1) = tab N (fun v => HS.cnt (spF R p q) v (k + 1)) by rw [← hc, ← hi]; exact cnt_tab (HLT.out k))
      have hel : el (tab N (fun v => HS.cnt (spF R p q) v k)) i = c := by rw [el_tab _ _ _ hiN]; exact hc
      have HEL := Lib.hid hel
      have HV := Lib.hid hv
      clear hv hadr had hi hc hel hkq
      go_wp2_with fail
      refine HV.out.mono ?_
      rintro e w9 ⟨rfl, hw9⟩
      obtain rfl := hw9
      have hb9 := Below.refl w9.heap.size w9
      have ho9 := HO.out.below hb9
      have HR9 := Lib.hid (HRr.out.below hb9)
      have HB9 := Lib.hid (HBr.out.trans (hb9.mono HBr.out.size))
      have hc9 := ho9.cellN i (by rw [tab_len]; exact hiN)
      have hf9 := ho9.free i (by rw [tab_len]; exact hiN)
      rw [HEL.out] at hc9
      have HO9 := Lib.hid ho9
      clear ho9 hb9 HV
      go_wp2_with fail
      go_roundw
      case rel =>
        have hset := HO9.out.setN i (c + 1)
        rw [HSET.out] at hset
        exact ⟨k + 1, by go_num, by omega, hset, HR9.out.other _ (fun b off e h0 => by subst e; exact Nat.ne_of_lt (HR.out.lt h0)), HB9.out.setCell (p := ⟨w.heap.size, i, none⟩) (Nat.le_refl _) _⟩
      case measure => simp [intOf]; omega
    · obtain rfl : k = n := by omega
      go_wp2_with fail
      exact bodyPost_ret (v := .tuple #[.slice (some ⟨w.heap.size, 0, none⟩) N N, .int .i64 0]) (by simp [results, Try.results14, go_sem]) rfl ⟨⟨_, rfl, some ⟨w.heap.size, 0, none⟩, N, by rw [tab_len], HO.out.rowAt, fun b o e => by cases e; exact Nat.le_refl _⟩, HBr.out⟩

set_option maxRecDepth 100000 in
set_option maxHeartbeats 1000000 in
theorem sameInts_yes (a b : Option Addr) (ca cb : Nat) (p q : List Nat) (w : World) (ha : Row w a p ca) (hb : Row w b q cb) (hpq : p = q) :
    Calls Try.prog 20 #[.slice a p.length ca, .slice b q.length cb] w fun e W => e = .returned (.bool true) ∧ Below w.heap.size w W := by
  subst hpq
  have hra := ha.room
  have hma := ha.most
  have hrb := hb.room
  have hmb := hb.most
  have HA := Lib.hid ha
  have HB := Lib.hid hb
  clear ha hb
  have hz : ((p.length : Int) != (p.length : Int)) = false := by simp
  go_enter Try.func20, Try.ntmps20
  go_wp2_with fail
  go_loopw [5] (fun i wr => ∃ k : Nat, i = .int .i64 (k : Int) ∧ k ≤ p.length ∧ Dr w wr) (fun i _ => p.length - (intOf i).toNat)
  case atStart => exact ⟨0, rfl, Nat.zero_le _, Dr.refl _⟩
  case round =>
    obtain ⟨k, rfl, hk, hd⟩ := hrel
    have HD := Lib.hid hd
    by_cases hlt : k < p.length
    · obtain ⟨ab, ao, rfl, c1⟩ := (HA.out.below hd.below).elN k hlt
      obtain ⟨bb, bo, rfl, c2⟩ := (HB.out.below hd.below).elN k hlt
      have hne : ((((el p k : Nat) : Int)) != ((el p k : Nat) : Int)) = false := by simp
      clear hd
      go_wp2_with fail
      go_quiet (fail)
      go_wp2_with fail
      go_roundw
      case rel => exact ⟨k + 1, by go_num, hlt, HD.out.drewN _⟩
      case measure => simp [intOf]; omega
    · clear hd
      go_wp2_with fail
      go_ret
      exact ⟨rfl, HD.out.below⟩
end Go.Proofs.Ytodiokladojnjaa.B
