/- poly.timesRoot; what a polynomial through points is. -/
import Derived.Test.YtfbogjibofeckaaPBool
import Derived.Test.YtfbogjibofeckaaPBoth
import Derived.Test.YtfbogjibofeckaaRound
namespace Go.Proofs.Ytfbogjibofeckaa.P
open Go Go.RowKit Go.Shelf

theorem times_el {p zs ys : List PM.G} {x : PM.G} {n : Nat} (hz : ∀ j, PM.el zs j = if j < 1 then 0 else if j < 1 + p.length then PM.el p (j - 1) else 0) (hy : ∀ j, PM.el ys j = PM.el zs j + if j < 0 then 0 else x * PM.el p (j - 0)) (_hn : n = p.length + 1) :
    ∀ j, PM.el ys j = PM.conv (PM.lin x) (PM.el p) j := by
  intro j
  rw [hy, hz, if_neg (Nat.not_lt_zero _), Nat.sub_zero, PM.conv_lin, PM.G.add_comm]
  congr 1
  cases j with
  | zero => rfl
  | succ j =>
    rw [if_neg (by omega), Nat.add_sub_cancel]
    show _ = PM.el p j
    by_cases h : j < p.length
    · rw [if_pos (by omega)]
    · rw [if_neg (by omega), PM.el_ge (by omega)]

set_option maxRecDepth 100000 in
set_option maxHeartbeats 1000000 in
/-- **poly.timesRoot** -/
theorem times_any (a : Option Addr) (ca : Nat) (p : List PM.G) (x : PM.G) (w : World) (ha : Row w a p ca) (h0 : 0 < p.length) (hl : p.length ≤ 300) :
    Calls Try.prog 41 #[.slice a p.length ca, .int .u8 (x.v : Int)] w fun e W => (∃ (g n : Nat) (ys : List PM.G), e = .returned (.slice (some ⟨g, 0, none⟩) n n) ∧ Own W w.heap.size (.slice (some ⟨g, 0, none⟩) n n) ys ∧ n = p.length + 1 ∧ ys.length = n ∧ ∀ j, PM.el ys j = PM.conv (PM.lin x) (PM.el p) j) ∧ Below w.heap.size w W := by
  have hra := ha.room
  have hma := ha.most
  have HA := Lib.hid ha
  have hag := fun (b o : Nat) (e : a = some ⟨b, o, none⟩) => (by subst e; exact ha.lt h0 : b < w.heap.size)
  have HAG := Lib.hid hag
  clear ha hag
  obtain ⟨n, hn⟩ : ∃ n, p.length + 1 = n := ⟨_, rfl⟩
  have hni : (p.length : Int) + 1 = (n : Int) := by omega
  go_enter Try.func41, Try.ntmps41
  go_wp2_with (first
    | (at_make; refine wpList_make1 rfl _ _ rfl n rfl rfl rfl (by omega) (B := w.heap.size) (Nat.le_refl _) ?_; intro w3 hown3 hb3; rw [List.length_replicate] at hown3; have HO3 := Lib.hid hown3; have HB3 := Lib.hid hb3; have HA3 := Lib.hid (HA.out.below hb3); clear hown3 hb3)
    | (refine wpList_copy1 (g := w.heap.size) (B := w.heap.size) (n := n) (off := 1) (zs := List.replicate n 0) (ps := p) rfl _ _ rfl HO3.out rfl rfl (fun _ => by first | rfl | rw [if_neg (by omega)]) (by omega) HA3.out (by rw [List.length_replicate]; omega) ?_; intro w4 hown4 hb4; have HO4 := Lib.hid hown4; have HB4 := Lib.hid hb4; clear hown4 hb4))
  have hlr : (List.replicate n (0 : PM.G)).length = n := List.length_replicate
  have hl4 : (splice (List.replicate n (0 : PM.G)) 1 p).length = n := by rw [length_splice _ _ _ (by rw [hlr]; omega), hlr]
  have hB4 : Below w.heap.size w w4 := HB3.out.trans HB4.out
  have hel4 : ∀ j, PM.el (splice (List.replicate n (0 : PM.G)) 1 p) j = if j < 1 then 0 else if j < 1 + p.length then PM.el p (j - 1) else 0 := fun j => by
    rw [el_splice _ _ _ _ (by rw [hlr]; omega), PM.el_replicate]
  have hO4 := HO4.out
  generalize splice (List.replicate n (0 : PM.G)) 1 p = zs at *
  have ht := addMul_any w.heap.size w.heap.size n 0 n n ca zs p a x w4 (by rw [hl4]; exact hO4) (HA.out.below hB4) (by omega) (by omega) (Nat.le_refl _) (by omega) (by
    intro _ b' o e; have := HAG.out b' o e; omega)
  refine ht.mono ?_
  clear ht
  rintro e w5 ⟨ys, rfl, hl5, hel5, ho5, hg5⟩
  rw [hl5, hl4] at ho5
  have hB5 := hB4.grown hg5 (by have := hB4.size; omega) (fun k e => by cases e; exact Nat.le_refl _)
  have hfin := times_el hel4 hel5 hn.symm
  have HFIN := Lib.hid (And.intro ho5 (And.intro hB5 hfin))
  have hly : ys.length = n := by rw [hl5, hl4]
  have HLY := Lib.hid hly
  clear hfin hB5 hg5 ho5 hel5 hl5 hel4 hO4 hB4 hl4 hlr HO4 HB4 HO3 HB3 HA3 hly
  go_wp2_with fail
  go_ret
  exact ⟨⟨w.heap.size, n, ys, rfl, HFIN.out.1, hn.symm, HLY.out, HFIN.out.2.2⟩, HFIN.out.2.1⟩

/-- No two points have the same place. -/
def Dist (xs : List PM.G) : Prop := ∀ s t, s < t → t < xs.length → PM.el xs s ≠ PM.el xs t
/-- P leads through the first i points. -/
structure Thr (xs ys P : List PM.G) (i : Nat) : Prop where
  at' : ∀ t, t < i → PM.ev P (PM.el xs t) = PM.el ys t
  van : ∀ j, i ≤ j → PM.el P j = 0
/-- N is the product of the x + xs t for t < i. -/
structure Nul (xs N : List PM.G) (i : Nat) : Prop where
  len : N.length = i + 1
  zero : ∀ x, PM.ev N x = 0 ↔ ∃ t, t < i ∧ PM.el xs t = x
theorem nul_start (xs : List PM.G) : Nul xs [PM.G.one] 0 := by
  refine ⟨rfl, fun x => ?_⟩
  have : PM.ev [PM.G.one] x = PM.G.one := by
    show PM.evn 1 (PM.el [PM.G.one]) x = _
    rw [PM.evn_succ, show PM.evn 0 (PM.sh (PM.el [PM.G.one])) x = 0 from rfl, PM.G.mul_zero, PM.G.add_zero]; rfl
  rw [this]
  exact ⟨fun h => absurd h PM.G.one_ne, fun ⟨t, ht, _⟩ => absurd ht (Nat.not_lt_zero _)⟩
theorem nul_step {xs N N' : List PM.G} {i : Nat} (h : Nul xs N i) (hl : N'.length = N.length + 1) (he : ∀ j, PM.el N' j = PM.conv (PM.lin (PM.el xs i)) (PM.el N) j) : Nul xs N' (i + 1) := by
  refine ⟨by rw [hl, h.len], fun x => ?_⟩
  have e : PM.ev N' x = (PM.el xs i + x) * PM.ev N x := by
    rw [← PM.ev_any N' x (n := 2 + (N'.length + N.length)) (by omega), show PM.el N' = PM.conv (PM.lin (PM.el xs i)) (PM.el N) from funext he, PM.evn_conv x (PM.el N) (N'.length + N.length) ((PM.el_van N).mono (by omega)) 2 (PM.lin (PM.el xs i)) (PM.lin_van _), PM.evn_lin, PM.ev_any N x (by omega)]
  rw [e, PM.G.mul_eq_zero, PM.G.add_eq_zero, h.zero]
  constructor
  · rintro (h1 | ⟨t, ht, h2⟩)
    · exact ⟨i, Nat.lt_succ_self i, h1⟩
    · exact ⟨t, by omega, h2⟩
  · rintro ⟨t, ht, h2⟩
    by_cases ht2 : t = i
    · subst ht2; exact .inl h2
    · exact .inr ⟨t, by omega, h2⟩
theorem ev_addmul {C N C' : List PM.G} {f : PM.G} (h : ∀ j, PM.el C' j = PM.el C j + f * PM.el N j) (x : PM.G) : PM.ev C' x = PM.ev C x + f * PM.ev N x := by
  rw [← PM.ev_any C' x (n := C'.length + C.length + N.length) (by omega), show PM.el C' = PM.addC (PM.el C) (PM.smul f (PM.el N)) from funext h, PM.evn_addC, PM.evn_smul, PM.ev_any C x (by omega), PM.ev_any N x (by omega)]
theorem div_mul (a b : PM.G) (hb : b ≠ 0) : ((⟨FM.divV a.v b.v, by unfold FM.divV; split; decide; exact FM.mul_lt a.lt⟩ : PM.G)) * b = a := by
  have hb0 : b.v ≠ 0 := fun e => hb (PM.G.ext' e)
  have e : (⟨FM.divV a.v b.v, by unfold FM.divV; split; decide; exact FM.mul_lt a.lt⟩ : PM.G) = a * b.inv := by
    apply PM.G.ext'
    show FM.divV a.v b.v = FM.mul a.v (FM.invV b.v)
    unfold FM.divV; rw [if_neg hb0]
  rw [e, PM.G.mul_assoc, PM.G.mul_comm b.inv, PM.G.mul_inv hb, PM.G.mul_one]
theorem thr_step {xs ys C N C' : List PM.G} {i : Nat} {f : PM.G} (hC : Thr xs ys C i) (hN : Nul xs N i) (h : ∀ j, PM.el C' j = PM.el C j + f * PM.el N j) (hf : f * PM.ev N (PM.el xs i) = PM.ev C (PM.el xs i) + PM.el ys i) : Thr xs ys C' (i + 1) := by
  refine ⟨fun t ht => ?_, fun j hj => ?_⟩
  · rw [ev_addmul h]
    by_cases e : t = i
    · subst e; rw [hf, PM.G.add_cancel]
    · rw [(hN.zero _).2 ⟨t, by omega, rfl⟩, PM.G.mul_zero, PM.G.add_zero, hC.at' t (by omega)]
  · rw [h, hC.van j (by omega), PM.el_ge (by rw [hN.len]; omega), PM.G.mul_zero, PM.G.add_zero]
/-- There is one polynomial through points. -/
theorem thr_unique {xs ys P Q : List PM.G} (hd : Dist xs) (hP : PM.Can P) (hQ : PM.Can Q) (h1 : Thr xs ys P xs.length) (h2 : Thr xs ys Q xs.length) : P = Q := by
  refine PM.can_ext hP hQ (fun k => ?_)
  have hv : PM.Van (PM.addC (PM.el P) (PM.el Q)) xs.length := fun j hj => by show PM.el P j + PM.el Q j = 0; rw [h1.van j hj, h2.van j hj, PM.G.add_zero]
  have hz : PM.addC (PM.el P) (PM.el Q) = PM.zeroC := by
    rcases PM.top_or _ _ hv with h | ⟨m, hm, hvm⟩
    · exact h
    · have hml : m < xs.length := by
        rcases Nat.lt_or_ge m xs.length with h | h
        · exact h
        · exact absurd (hv m h) hm
      have hnd : xs.Nodup := by
        rw [List.Nodup, List.pairwise_iff_getElem]
        intro s t hs ht hst e
        exact hd s t hst ht (by rw [PM.el_lt hs, PM.el_lt ht, e])
      have := PM.roots_le m _ hvm hm xs hnd (fun x hx => by
        obtain ⟨t, ht, rfl⟩ := List.getElem_of_mem hx
        have e1 := h1.at' t ht
        have e2 := h2.at' t ht
        rw [PM.el_lt ht] at e1 e2
        have e3 := PM.evn_van xs[t] (m + 1) (m + 1 + P.length + Q.length) _ hvm (by omega)
        rw [← e3, PM.evn_addC, PM.ev_any P _ (by omega), PM.ev_any Q _ (by omega), e1, e2, PM.G.add_self])
      omega
  exact PM.G.add_eq_zero.1 (congrFun hz k)
end Go.Proofs.Ytfbogjibofeckaa.P
