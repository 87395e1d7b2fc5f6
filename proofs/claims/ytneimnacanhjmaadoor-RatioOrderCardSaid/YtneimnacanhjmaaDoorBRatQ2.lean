/- Comparisons, Floor and Make of short fractions, by their values. -/
import Derived.Test.YtneimnacanhjmaaDoorB10
namespace Go.Proofs.YtneimnacanhjmaaDoor
open Go Go.RowKit Go.Shelf

theorem cmp_nonneg {x y : Nat} (h : y ≤ x) : 0 ≤ Lib.compareInt (x : Int) (y : Int) := by
  unfold Lib.compareInt; split
  · omega
  · split <;> omega
theorem cmp_neg {x y : Nat} (h : x < y) : Lib.compareInt (x : Int) (y : Int) < 0 := by
  unfold Lib.compareInt; split <;> omega
theorem cmp_nonpos {x y : Nat} (h : x ≤ y) : Lib.compareInt (x : Int) (y : Int) ≤ 0 := by
  unfold Lib.compareInt; split
  · omega
  · split <;> omega
section
variable {u v : Value} {x y z t L K N : Nat} {w : World}
theorem qCmp (hu : RatV w u x y) (hv : RatV w v z t) (hx : Lo x y L) (hz : Lo z t K) (hN : L + K ≤ 200) :
    Calls Tryd.prog 61 #[u, v] w fun e W' => e = .returned (.tuple #[.int .i64 (Lib.compareInt ((x * t : Nat) : Int) ((z * y : Nat) : Int)), .int .i64 0]) ∧ Below w.heap.size w W' := by
  obtain ⟨hy, hg, lx, ly⟩ := hx
  obtain ⟨ht, hg2, lz, lt⟩ := hz
  have l1 := M.dig_len_mul lx lt
  have l2 := M.dig_len_mul lz ly
  exact ratCmp_fit hu hv (by omega) (by omega) (by omega) (by omega) hy ht hg hg2 (by omega) (by omega)
theorem qCmp_ge (hu : RatV w u x y) (hv : RatV w v z t) (hx : Lo x y L) (hz : Lo z t K) (hN : L + K ≤ 200) (h : z * y ≤ x * t) :
    Calls Tryd.prog 61 #[u, v] w fun e W' => (∃ c : Int, 0 ≤ c ∧ e = .returned (.tuple #[.int .i64 c, .int .i64 0])) ∧ Below w.heap.size w W' :=
  (qCmp hu hv hx hz hN).mono fun _ _ ⟨he, hb⟩ => ⟨⟨_, cmp_nonneg h, he⟩, hb⟩
theorem qCmp_lt (hu : RatV w u x y) (hv : RatV w v z t) (hx : Lo x y L) (hz : Lo z t K) (hN : L + K ≤ 200) (h : x * t < z * y) :
    Calls Tryd.prog 61 #[u, v] w fun e W' => (∃ c : Int, c < 0 ∧ e = .returned (.tuple #[.int .i64 c, .int .i64 0])) ∧ Below w.heap.size w W' :=
  (qCmp hu hv hx hz hN).mono fun _ _ ⟨he, hb⟩ => ⟨⟨_, cmp_neg h, he⟩, hb⟩
theorem qFloor (hu : RatV w u x y) (hx : Lo x y L) (hN : L ≤ 200) :
    Calls Tryd.prog 62 #[u] w fun e W' => (∃ (s : Option Addr) (c n : Nat), e = .returned (.tuple #[.agg #[.slice s (M.dig n).length c], .int .i64 0]) ∧ Row W' s (M.dig n) c ∧ (M.dig n).length ≤ L ∧ n * y ≤ x ∧ x < (n + 1) * y) ∧ Below w.heap.size w W' := by
  obtain ⟨hy, hg, lx, ly⟩ := hx
  refine (ratFloor_fit hu (by omega) (by omega) hy hg).mono ?_
  rintro e W' ⟨⟨r, rfl, s, c, rfl, h1⟩, hb⟩
  refine ⟨⟨s, c, x / y, rfl, h1, Nat.le_trans (M.dig_len_mono (Nat.div_le_self _ _)) lx, Nat.div_mul_le_self x y, ?_⟩, hb⟩
  have h2 := Nat.div_add_mod x y
  have h3 := Nat.mod_lt x hy
  rw [Nat.add_mul, Nat.one_mul, Nat.mul_comm]
  omega
theorem qMake {a b : Option Addr} {ca cb : Nat} (ha : Row w a (M.dig x) ca) (hb : Row w b (M.dig y) cb) (hy : 0 < y) (lx : (M.dig x).length ≤ N) (ly : (M.dig y).length ≤ N) (hN : N ≤ 200) :
    Calls Tryd.prog 51 #[.agg #[.slice a (M.dig x).length ca], .agg #[.slice b (M.dig y).length cb]] w fun e W' => QRes N (fun r => r = Q x y) e W' ∧ Below w.heap.size w W' := by
  refine (make_pos a b ca cb x y w hy (by omega) (by omega) ha hb).mono ?_
  rintro e W' ⟨⟨r, rfl, s, c, t', d, rfl, h1, h2⟩, hb⟩
  exact ⟨⟨s, c, t', d, _, _, rfl, h1, h2, Lo.red hy lx ly, by rw [Q_red hy]⟩, hb⟩
theorem qTimes {a b : Option Addr} {ca cb : Nat} (ha : Row w a (M.dig x) ca) (hb : Row w b (M.dig y) cb) (lx : (M.dig x).length ≤ L) (ly : (M.dig y).length ≤ K) (hN : L + K ≤ 200) :
    Calls Tryd.prog 28 #[.agg #[.slice a (M.dig x).length ca], .agg #[.slice b (M.dig y).length cb]] w fun e W' => (∃ (s : Option Addr) (c n : Nat), e = .returned (.tuple #[.agg #[.slice s (M.dig n).length c], .int .i64 0]) ∧ Row W' s (M.dig n) c ∧ n = x * y) ∧ Below w.heap.size w W' := by
  have l := M.dig_len_mul lx ly
  refine (mul_any a b ca cb x y w (by omega) (by omega) ha hb).mono ?_
  rintro e W' ⟨hres, hb⟩
  obtain ⟨v, rfl, s, c, rfl, hr⟩ := hres.ok (by omega)
  exact ⟨⟨s, c, _, rfl, hr, rfl⟩, hb⟩
theorem qOrd_le {a b : Option Addr} {ca cb : Nat} (ha : Row w a (M.dig x) ca) (hb : Row w b (M.dig y) cb) (h : x ≤ y) :
    Calls Tryd.prog 41 #[.agg #[.slice a (M.dig x).length ca], .agg #[.slice b (M.dig y).length cb]] w fun e W' => (∃ c : Int, c ≤ 0 ∧ e = .returned (.int .i64 c)) ∧ Below w.heap.size w W' :=
  (cmp_any a b ca cb x y w ha hb).mono fun _ _ ⟨he, hb⟩ => ⟨⟨_, cmp_nonpos h, he⟩, hb⟩
end
theorem whole_one {n m L : Nat} (h : Lo n m L) (e : Q n m = Q 1 1) : n = 1 ∧ m = 1 := low_inj h.2.1 (by decide) h.1 (Q_cross h.1 (by decide) e)
/-- The floor is at most the fraction. -/
theorem floor_le {n m x y k L : Nat} (h : Lo n m L) (e : Q n m = Q k 1) (hk : k * y ≤ x) : n * y ≤ x * m := by
  have c := Q_cross h.1 (by decide) e
  rw [Nat.mul_one] at c
  rw [c, Nat.mul_right_comm]
  exact Nat.mul_le_mul_right m hk
/-- What is left is less than 1. -/
theorem rest_lt {r s n m x y k K J : Nat} (hr : Lo r s J) (hx : Lo x y K) (e : Q n m = Q k 1) (hs : Q r s + Q n m = Q x y) (hk : x < (k + 1) * y) : r < s := by
  rw [e, ← Q_add hr.1 (by decide)] at hs
  have c := Q_cross (Nat.mul_pos hr.1 (by decide)) hx.1 hs
  simp only [Nat.mul_one] at c
  have h1 : x * s < (k + 1) * y * s := Nat.mul_lt_mul_of_pos_right hk hr.1
  rw [← c, show (k + 1) * y * s = ((k + 1) * s) * y by rw [Nat.mul_right_comm]] at h1
  have h2 := Nat.lt_of_mul_lt_mul_right h1
  rw [Nat.add_mul, Nat.one_mul] at h2
  omega
end Go.Proofs.YtneimnacanhjmaaDoor
