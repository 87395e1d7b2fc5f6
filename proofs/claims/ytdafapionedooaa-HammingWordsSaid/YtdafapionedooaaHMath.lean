/- The columns, the syndrome, decoding: plain mathematics. -/
import Derived.Lib.BitFns
import Derived.Test.YtdafapionedooaaGU8
namespace Go.Proofs.Ytdafapionedooaa.G.H
open Go

theorem Y.xor_zero (a : Y) : a ^^^ 0 = a := BitVec.xor_zero
theorem Y.zero_xor (a : Y) : 0 ^^^ a = a := BitVec.zero_xor
theorem Y.bit_zero (k : Nat) : (0 : Y).getLsbD k = false := BitVec.getLsbD_zero
/-- How many bits a number has. -/
def pc (c : Nat) : Nat := Lib.onesCount c
/-- What the loop over all bytes knows: the list, the three counters. -/
structure Cs where
  l : List Y
  n3 : Nat
  n5 : Nat
  n1 : Nat
def cstep (s : Cs) (c : Nat) : Cs :=
  if pc c = 3 then ⟨s.l.set s.n3 (BitVec.ofNat 8 c), s.n3 + 1, s.n5, s.n1⟩
  else if pc c = 5 then (if s.n5 < 64 then ⟨s.l.set s.n5 (BitVec.ofNat 8 c), s.n3, s.n5 + 1, s.n1⟩ else s)
  else if pc c = 1 then ⟨s.l.set s.n1 (BitVec.ofNat 8 c), s.n3, s.n5, s.n1 + 1⟩ else s
def crun : Nat → Cs
  | 0 => ⟨List.replicate 72 0, 0, 56, 64⟩
  | n + 1 => cstep (crun n) n
def cols : List Y := [7#8, 11#8, 13#8, 14#8, 19#8, 21#8, 22#8, 25#8, 26#8, 28#8, 35#8, 37#8, 38#8, 41#8, 42#8, 44#8, 49#8, 50#8, 52#8, 56#8, 67#8, 69#8, 70#8, 73#8, 74#8, 76#8, 81#8, 82#8, 84#8, 88#8, 97#8, 98#8, 100#8, 104#8, 112#8, 131#8, 133#8, 134#8, 137#8, 138#8, 140#8, 145#8, 146#8, 148#8, 152#8, 161#8, 162#8, 164#8, 168#8, 176#8, 193#8, 194#8, 196#8, 200#8, 208#8, 224#8, 31#8, 47#8, 55#8, 59#8, 61#8, 62#8, 79#8, 87#8, 1#8, 2#8, 4#8, 8#8, 16#8, 32#8, 64#8, 128#8]
theorem cols_len : cols.length = 72 := rfl
theorem crun_l : (crun 256).l = cols := by decide +kernel
theorem crun_n3 : (crun 256).n3 = 56 := by decide +kernel
theorem crun_n1 : (crun 256).n1 = 72 := by decide +kernel
theorem crun_len : ∀ n, (crun n).l.length = 72
  | 0 => by show (List.replicate 72 (0 : Y)).length = 72; rw [List.length_replicate]
  | n + 1 => by
    have h := crun_len n
    show (cstep (crun n) n).l.length = 72
    unfold cstep
    split
    · simpa using h
    · split
      · split
        · simpa using h
        · exact h
      · split
        · simpa using h
        · exact h
theorem cstep_mono (s : Cs) (c : Nat) : s.n3 ≤ (cstep s c).n3 ∧ s.n1 ≤ (cstep s c).n1 := by
  unfold cstep
  split
  · exact ⟨Nat.le_succ _, Nat.le_refl _⟩
  · split
    · split <;> exact ⟨Nat.le_refl _, Nat.le_refl _⟩
    · split
      · exact ⟨Nat.le_refl _, Nat.le_succ _⟩
      · exact ⟨Nat.le_refl _, Nat.le_refl _⟩
theorem crun_mono (n : Nat) : ∀ m, n ≤ m → (crun n).n3 ≤ (crun m).n3 ∧ (crun n).n1 ≤ (crun m).n1 := by
  intro m
  induction m with
  | zero => intro h; rw [show n = 0 by omega]; exact ⟨Nat.le_refl _, Nat.le_refl _⟩
  | succ m ih =>
    intro h
    by_cases e : n = m + 1
    · rw [e]; exact ⟨Nat.le_refl _, Nat.le_refl _⟩
    · have h1 := ih (by omega)
      have h2 := cstep_mono (crun m) m
      exact ⟨Nat.le_trans h1.1 h2.1, Nat.le_trans h1.2 h2.2⟩
theorem crun_3 {n : Nat} (hn : n < 256) (h : pc n = 3) : (crun n).n3 < 56 ∧ crun (n + 1) = ⟨(crun n).l.set (crun n).n3 (BitVec.ofNat 8 n), (crun n).n3 + 1, (crun n).n5, (crun n).n1⟩ := by
  have e : crun (n + 1) = ⟨(crun n).l.set (crun n).n3 (BitVec.ofNat 8 n), (crun n).n3 + 1, (crun n).n5, (crun n).n1⟩ := by
    show cstep (crun n) n = _
    unfold cstep
    rw [if_pos h]
  have h1 := (crun_mono (n + 1) 256 hn).1
  rw [crun_n3, e] at h1
  exact ⟨h1, e⟩
theorem crun_1 {n : Nat} (hn : n < 256) (h : pc n = 1) : (crun n).n1 < 72 ∧ crun (n + 1) = ⟨(crun n).l.set (crun n).n1 (BitVec.ofNat 8 n), (crun n).n3, (crun n).n5, (crun n).n1 + 1⟩ := by
  have e : crun (n + 1) = ⟨(crun n).l.set (crun n).n1 (BitVec.ofNat 8 n), (crun n).n3, (crun n).n5, (crun n).n1 + 1⟩ := by
    show cstep (crun n) n = _
    unfold cstep
    rw [if_neg (by omega), if_neg (by omega), if_pos h]
  have h1 := (crun_mono (n + 1) 256 hn).2
  rw [crun_n1, e] at h1
  exact ⟨h1, e⟩
theorem crun_5 {n : Nat} (h : pc n = 5) (h5 : (crun n).n5 < 64) : crun (n + 1) = ⟨(crun n).l.set (crun n).n5 (BitVec.ofNat 8 n), (crun n).n3, (crun n).n5 + 1, (crun n).n1⟩ := by
  show cstep (crun n) n = _
  unfold cstep
  rw [if_neg (by omega), if_pos h, if_pos h5]
theorem crun_5no {n : Nat} (h : pc n = 5) (h5 : ¬ (crun n).n5 < 64) : crun (n + 1) = crun n := by
  show cstep (crun n) n = _
  unfold cstep
  rw [if_neg (by omega), if_pos h, if_neg h5]
theorem crun_no {n : Nat} (h3 : ¬ pc n = 3) (h5 : ¬ pc n = 5) (h1 : ¬ pc n = 1) : crun (n + 1) = crun n := by
  show cstep (crun n) n = _
  unfold cstep
  rw [if_neg h3, if_neg h5, if_neg h1]

def col (k : Nat) : Y := el cols k
def bitAt (w : List Y) (k : Nat) : Bool := (el w (k / 8)).getLsbD (k % 8)
/-- The exclusive or of the columns of the first n bits that are 1. -/
def syn (w : List Y) : Nat → Y
  | 0 => 0
  | n + 1 => syn w n ^^^ (if bitAt w n then col n else 0)
/-- The bit that has this column, or 72. -/
def idx (s : Y) : Nat := cols.findIdx (· == s)
theorem idx_le (s : Y) : idx s ≤ 72 := by rw [← cols_len]; exact List.findIdx_le_length
theorem col_get {k : Nat} (h : k < 72) : col k = cols[k]'(by rw [cols_len]; exact h) := el_lt (by rw [cols_len]; exact h)
theorem idx_col {s : Y} (h : idx s < 72) : col (idx s) = s := by
  have := List.findIdx_getElem (xs := cols) (p := (· == s)) (w := by rw [cols_len]; exact h)
  rw [col_get h]
  exact eq_of_beq this
theorem idx_not {s : Y} {k : Nat} (h : k < idx s) : col k ≠ s := by
  have hk : k < 72 := Nat.lt_of_lt_of_le h (idx_le s)
  have := List.not_of_lt_findIdx (xs := cols) (p := (· == s)) h
  rw [col_get hk]
  intro e
  rw [e] at this
  simp at this
theorem idx_min {s : Y} {k : Nat} (hk : k < 72) (h : col k = s) (hno : ∀ j, j < k → col j ≠ s) : idx s = k := by
  rcases Nat.lt_trichotomy (idx s) k with h1 | h1 | h1
  · exact absurd (idx_col (by omega)) (hno _ h1)
  · exact h1
  · exact absurd h (idx_not h1)
theorem idx_none {s : Y} (hno : ∀ j, j < 72 → col j ≠ s) : idx s = 72 := by
  have := idx_le s
  rcases Nat.lt_or_ge (idx s) 72 with h | h
  · exact absurd (idx_col h) (hno _ h)
  · omega
theorem cols_nodup : ∀ i, i < 72 → ∀ k, k < 72 → (col i == col k) = (i == k) := by decide +kernel
theorem col_inj {i k : Nat} (hi : i < 72) (hk : k < 72) (h : col i = col k) : i = k := by
  have := cols_nodup i hi k hk
  rw [h] at this
  simp at this
  exact this
theorem idx_of_col {k : Nat} (hk : k < 72) : idx (col k) = k := idx_min hk rfl (fun j hj e => by have := col_inj (by omega) hk e; omega)

/-- Whether a byte has an odd number of bits. -/
def par (v : Y) : Bool := (v.getLsbD 0 ^^ v.getLsbD 1) ^^ (v.getLsbD 2 ^^ v.getLsbD 3) ^^ ((v.getLsbD 4 ^^ v.getLsbD 5) ^^ (v.getLsbD 6 ^^ v.getLsbD 7))
theorem par_xor (a b : Y) : par (a ^^^ b) = (par a ^^ par b) := by
  unfold par
  simp only [BitVec.getLsbD_xor]
  haveI : Std.Commutative (α := Bool) Bool.xor := ⟨Bool.xor_comm⟩
  ac_rfl
theorem par_zero : par 0 = false := by decide
theorem par_col : ∀ k, k < 72 → par (col k) = true := by decide +kernel
theorem col_ne {k : Nat} (h : k < 72) : col k ≠ 0 := fun e => by
  have := par_col k h
  rw [e, par_zero] at this
  cases this

/-- Bit b turned over. -/
def flipAt (w : List Y) (b : Nat) : List Y := w.set (b / 8) (el w (b / 8) ^^^ ((1 : Y) <<< (b % 8)))
theorem flip_len (w : List Y) (b : Nat) : (flipAt w b).length = w.length := List.length_set
theorem one_shl : ∀ m, m < 8 → ∀ j, j < 8 → ((1 : Y) <<< m).getLsbD j = (j == m) := by decide
theorem bit_flip {w : List Y} {b : Nat} (hb : b / 8 < w.length) (k : Nat) : bitAt (flipAt w b) k = (bitAt w k ^^ (k == b)) := by
  unfold bitAt flipAt
  rw [el_set hb]
  by_cases h : k / 8 = b / 8
  · rw [if_pos h, BitVec.getLsbD_xor, h, one_shl _ (Nat.mod_lt _ (by decide)) _ (Nat.mod_lt _ (by decide))]
    congr 1
    rw [Bool.eq_iff_iff, beq_iff_eq, beq_iff_eq]
    omega
  · rw [if_neg h]
    have : (k == b) = false := by rw [beq_eq_false_iff_ne]; rintro rfl; exact h rfl
    rw [this, Bool.xor_false]
theorem ite_xor (p q : Bool) (c : Y) : (if (p ^^ q) = true then c else 0) = (if p = true then c else 0) ^^^ (if q = true then c else 0) := by
  cases p <;> cases q <;> simp
theorem syn_xor {x y z : List Y} (h : ∀ k, bitAt z k = (bitAt x k ^^ bitAt y k)) : ∀ n, syn z n = syn x n ^^^ syn y n
  | 0 => by show (0 : Y) = 0 ^^^ 0; decide
  | n + 1 => by
    show syn z n ^^^ _ = (syn x n ^^^ _) ^^^ (syn y n ^^^ _)
    rw [syn_xor h n, h n, ite_xor]
    ac_rfl
theorem syn_flip {w : List Y} {b : Nat} (hb : b / 8 < w.length) : ∀ n, syn (flipAt w b) n = syn w n ^^^ (if b < n then col b else 0)
  | 0 => by show (0 : Y) = 0 ^^^ (if b < 0 then col b else 0); rw [if_neg (Nat.not_lt_zero b)]; decide
  | n + 1 => by
    show syn (flipAt w b) n ^^^ _ = (syn w n ^^^ _) ^^^ _
    rw [syn_flip hb n, bit_flip hb, ite_xor]
    by_cases e : n = b
    · subst e
      rw [if_neg (Nat.lt_irrefl n), if_pos (Nat.lt_succ_self n), if_pos (show (n == n) = true by simp)]
      simp only [Y.xor_zero]
      ac_rfl
    · rw [if_neg (show ¬ (n == b) = true by simp; exact e)]
      by_cases h : b < n
      · rw [if_pos h, if_pos (show b < n + 1 from Nat.lt_succ_of_lt h)]
        simp only [Y.xor_zero]
        ac_rfl
      · rw [if_neg h, if_neg (show ¬ b < n + 1 from fun h2 => h (Nat.lt_of_le_of_ne (Nat.le_of_lt_succ h2) (fun e2 => e e2.symm)))]
        simp only [Y.xor_zero]
theorem syn_ext {x y : List Y} : ∀ n, (∀ k, k < n → bitAt x k = bitAt y k) → syn x n = syn y n
  | 0, _ => rfl
  | n + 1, h => by
    show syn x n ^^^ _ = syn y n ^^^ _
    rw [syn_ext n (fun k hk => h k (by omega)), h n (by omega)]
theorem syn_check : ∀ c, c < 256 → syn [0, 0, 0, 0, 0, 0, 0, 0, BitVec.ofNat 8 c] 72 = BitVec.ofNat 8 c := by decide +kernel
theorem syn_zero : ∀ n, syn [0, 0, 0, 0, 0, 0, 0, 0, 0] n = 0 := by
  intro n
  induction n with
  | zero => rfl
  | succ n ih =>
    show syn _ n ^^^ _ = 0
    rw [ih]
    have : bitAt [0, 0, 0, 0, 0, 0, 0, 0, 0] n = false := by
      unfold bitAt
      have h0 : el ([0, 0, 0, 0, 0, 0, 0, 0, 0] : List Y) (n / 8) = 0 := by
        by_cases h : n / 8 < 9
        · exact (show ∀ k, k < 9 → el ([0, 0, 0, 0, 0, 0, 0, 0, 0] : List Y) k = 0 by decide) _ h
        · exact el_ge (by show 9 ≤ _; omega)
      rw [h0]; exact Y.bit_zero _
    rw [this, if_neg (by decide)]; exact Y.xor_zero _
/-- Data and the check byte are a code word. -/
theorem syn_word {data : List Y} (hd : data.length = 8) : syn (data ++ [syn data 64]) 72 = 0 := by
  obtain ⟨c, hc⟩ : ∃ c, syn data 64 = c := ⟨_, rfl⟩
  have h1 := syn_xor (x := data ++ [0]) (y := [0, 0, 0, 0, 0, 0, 0, 0, c]) (z := data ++ [c]) (fun k => by
    unfold bitAt
    rw [el_append, el_append, hd]
    by_cases h : k / 8 < 8
    · rw [if_pos h, if_pos h]
      have : el ([0, 0, 0, 0, 0, 0, 0, 0, c] : List Y) (k / 8) = 0 := by
        obtain ⟨m, hm⟩ : ∃ m, k / 8 = m := ⟨_, rfl⟩
        rw [hm] at h ⊢
        match m, h with
        | 0, _ => rfl
        | 1, _ => rfl
        | 2, _ => rfl
        | 3, _ => rfl
        | 4, _ => rfl
        | 5, _ => rfl
        | 6, _ => rfl
        | 7, _ => rfl
      rw [this, Y.bit_zero _, Bool.xor_false]
    · rw [if_neg h, if_neg h]
      by_cases h8 : k / 8 = 8
      · rw [h8]
        show c.getLsbD _ = ((0 : Y).getLsbD _ ^^ c.getLsbD _)
        rw [Y.bit_zero _, Bool.false_xor]
      · rw [el_ge (show ([c] : List Y).length ≤ k / 8 - 8 by show 1 ≤ _; omega), el_ge (show ([0] : List Y).length ≤ k / 8 - 8 by show 1 ≤ _; omega), el_ge (show ([0, 0, 0, 0, 0, 0, 0, 0, c] : List Y).length ≤ k / 8 by show 9 ≤ _; omega)]
        show (0 : Y).getLsbD _ = ((0 : Y).getLsbD _ ^^ (0 : Y).getLsbD _)
        rw [Y.bit_zero _]; rfl) 72
  have h2 : syn (data ++ [0]) 64 = syn data 64 := syn_ext 64 (fun k hk => by
    unfold bitAt
    rw [el_append, hd, if_pos (by omega)])
  have h3 : ∀ m, m ≤ 8 → syn (data ++ [0]) (64 + m) = syn data 64 := by
    intro m
    induction m with
    | zero => intro _; exact h2
    | succ m ih =>
      intro hm
      show syn (data ++ [0]) (64 + m) ^^^ (if bitAt (data ++ [0]) (64 + m) = true then col (64 + m) else 0) = _
      rw [ih (by omega)]
      have : bitAt (data ++ [0]) (64 + m) = false := by
        unfold bitAt
        rw [el_append, hd, if_neg (by omega), show (64 + m) / 8 - 8 = 0 by omega]
        exact Y.bit_zero _
      rw [this, if_neg (by decide)]
      exact Y.xor_zero _
  have h4 : syn [0, 0, 0, 0, 0, 0, 0, 0, c] 72 = c := by
    have := syn_check c.toNat c.isLt
    rwa [BitVec.ofNat_toNat, BitVec.setWidth_eq] at this
  rw [hc]
  rw [h1, h3 8 (Nat.le_refl _), h4, hc, BitVec.xor_self]
  rfl
theorem flip_flip {w : List Y} {b : Nat} (hb : b / 8 < w.length) : flipAt (flipAt w b) b = w := by
  unfold flipAt
  rw [el_set hb, if_pos rfl, List.set_set, BitVec.xor_assoc, BitVec.xor_self]; rw [show (0#8 : Y) = 0 from rfl, Y.xor_zero, el_lt hb]
  exact List.set_getElem_self hb

/-- What decoding answers. -/
def decO (s : Y) : Nat := if s = 0 then 0 else if idx s < 72 then 1 else 2
def decW (w : List Y) (s : Y) : List Y := if s = 0 then w else if idx s < 72 then flipAt w (idx s) else []
def decC (s : Y) : List Nat := if s = 0 then [] else if idx s < 72 then [idx s / 8] else []
def decB (s : Y) : Int := if s = 0 then -1 else if idx s < 72 then (idx s : Int) else -1
/-- The weight by clearing the lowest bit. -/
theorem low_clear : ∀ n, n < 256 → n ≠ 0 → pc (n &&& (n - 1)) + 1 = pc n ∧ (n &&& (n - 1)) < n := by decide +kernel
theorem pc_le : ∀ n, n < 256 → pc n ≤ 8 := by decide +kernel
theorem pc_zero : pc 0 = 0 := by decide
theorem pc_eq (c : Nat) : pc c = Lib.onesCount c := rfl
theorem syn_0 (w : List Y) : syn w 0 = 0 := rfl
theorem syn_succ (w : List Y) (n : Nat) : syn w (n + 1) = syn w n ^^^ (if bitAt w n then col n else 0) := rfl
theorem col_eq (k : Nat) : col k = el cols k := rfl
theorem crun_0 : crun 0 = ⟨List.replicate 72 0, 0, 56, 64⟩ := rfl
theorem dec_0 {w : List Y} {s : Y} (h : s = 0) : decO s = 0 ∧ decW w s = w ∧ decC s = [] ∧ decB s = -1 := by
  unfold decO decW decC decB
  rw [if_pos h, if_pos h, if_pos h, if_pos h]
  exact ⟨rfl, rfl, rfl, rfl⟩
theorem dec_1 {w : List Y} {s : Y} (h : s ≠ 0) (hi : idx s < 72) : decO s = 1 ∧ decW w s = flipAt w (idx s) ∧ decC s = [idx s / 8] ∧ decB s = (idx s : Int) := by
  unfold decO decW decC decB
  rw [if_neg h, if_neg h, if_neg h, if_neg h, if_pos hi, if_pos hi, if_pos hi, if_pos hi]
  exact ⟨rfl, rfl, rfl, rfl⟩
theorem dec_2 {w : List Y} {s : Y} (h : s ≠ 0) (hi : idx s = 72) : decO s = 2 ∧ decW w s = [] ∧ decC s = [] ∧ decB s = -1 := by
  have hi' : ¬ idx s < 72 := by omega
  unfold decO decW decC decB
  rw [if_neg h, if_neg h, if_neg h, if_neg h, if_neg hi', if_neg hi', if_neg hi', if_neg hi']
  exact ⟨rfl, rfl, rfl, rfl⟩
theorem pc_par : ∀ n, n < 256 → (pc n % 2 == 1) = par (BitVec.ofNat 8 n) := by decide +kernel
/-- The bytes below n with this many bits. -/
def rl (m : Nat) : Nat → List Y
  | 0 => []
  | n + 1 => if pc n = m then rl m n ++ [BitVec.ofNat 8 n] else rl m n
theorem rl_0 (m : Nat) : rl m 0 = [] := rfl
theorem rl_yes {m n : Nat} (h : pc n = m) : rl m (n + 1) = rl m n ++ [BitVec.ofNat 8 n] := if_pos h
theorem rl_no {m n : Nat} (h : ¬ pc n = m) : rl m (n + 1) = rl m n := if_neg h
theorem rl_mono (m n : Nat) : ∀ k, n ≤ k → (rl m n).length ≤ (rl m k).length := by
  intro k
  induction k with
  | zero => intro h; rw [show n = 0 by omega]; exact Nat.le_refl _
  | succ k ih =>
    intro h
    by_cases e : n = k + 1
    · rw [e]; exact Nat.le_refl _
    · have h1 := ih (by omega)
      by_cases h2 : pc k = m
      · rw [rl_yes h2, List.length_append]; omega
      · rw [rl_no h2]; exact h1
theorem rl3_len : (rl 3 256).length = 56 := by decide +kernel
theorem rl5_87 : (rl 5 87).length = 7 := by decide +kernel
theorem rl5_88 : (rl 5 88).length = 8 := by decide +kernel
/-- The single bits. -/
def ones (n : Nat) : List Y := (List.range n).map (fun k => (1 : Y) <<< k)
theorem ones_0 : ones 0 = [] := rfl
theorem ones_succ (n : Nat) : ones (n + 1) = ones n ++ [(1 : Y) <<< n] := by simp [ones, List.range_succ]
theorem ones_len (n : Nat) : (ones n).length = n := by simp [ones]
theorem cols_ref : (rl 3 256 ++ rl 5 88) ++ ones 8 = cols := by decide +kernel
attribute [irreducible] rl ones pc crun syn idx col par decO decW decC decB cols
end Go.Proofs.Ytdafapionedooaa.G.H
