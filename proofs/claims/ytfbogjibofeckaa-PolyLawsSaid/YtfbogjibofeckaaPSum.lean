/- copy into a slice that a call has made; poly.Add. -/
import Derived.Test.YtfbogjibofeckaaPMulBad
namespace Go.Proofs.Ytfbogjibofeckaa.P
open Go Go.RowKit Go.Shelf

theorem map_splice (zs ps : List PM.G) (off : Nat) : splice (zs.map gv) off (ps.map gv) = (splice zs off ps).map gv := by
  unfold splice; simp [List.map_take, List.map_drop]
theorem el_splice (zs ps : List PM.G) (off k : Nat) (h : off + ps.length ≤ zs.length) : PM.el (splice zs off ps) k = if k < off then PM.el zs k else if k < off + ps.length then PM.el ps (k - off) else PM.el zs k := by
  unfold splice
  rw [PM.el_append, PM.el_append, PM.el_take, PM.el_drop, List.length_take, Nat.min_eq_left (by omega)]
  by_cases h1 : k < off
  · rw [if_pos h1, if_pos h1, if_pos h1]
  · rw [if_neg h1, if_neg h1]
    by_cases h2 : k < off + ps.length
    · rw [if_pos (by omega), if_pos h2]
    · rw [if_neg (by omega), if_neg h2]; congr 1; omega
theorem info_one : (Try.prog.info? 5).map (·.size) = some 1 := by kernel_rfl

/-- **copy(s[off:], p)** into a slice that was made with this length. -/
theorem wpList_copy1 {w : World} {ops : Array Oper} {rest : List Oper} {o : Oper} {a : Act} {Q : Exit → Act → World → Prop} (hgd : o.guard = none) (d s : Operand)
    (ho : o.op = .call { callee := .builtin .copy, args := #[d, s], argTypes := #[22, 22] }) {B g n off dLen dCap cp : Nat} {dp sp : Option Addr} {zs ps : List PM.G} (hown : Own w B (.slice (some ⟨g, 0, none⟩) n n) zs)
    (hd : a.eval d = .slice dp dLen dCap) (hs : a.eval s = .slice sp ps.length cp) (hdp : 0 < ps.length → dp = some ⟨g, off, none⟩) (hdl : ps.length ≤ dLen) (hr : Row w sp ps cp) (hfit : off + ps.length ≤ zs.length)
    (h : ∀ w', Own w' B (.slice (some ⟨g, 0, none⟩) n n) (splice zs off ps) → Below g w w' → wpList Try.prog ops Q rest (a.put o.dst (goInt ps.length)) w') : wpList Try.prog ops Q (o :: rest) a w := by
  have hlen := hown.len
  obtain ⟨h1, h2 | ⟨g', cap, cur, hv, hB, hh, r1, r2, r3, r4⟩⟩ := hown
  · have := h2.1; cases this
  · cases hv
    have hcur : cur = ((zs.map gv).toArray) := by
      have : cur.toList.take (zs.length * 1) = cur.toList := List.take_of_length_le (by rw [Array.length_toList, r3]; exact Nat.le_refl _)
      rw [← r4, this]
    subst hcur
    have hcs : (ps.map gv).length = ps.length := List.length_map _
    refine wpList_copy_splice (P := Try.prog) hgd d s 22 22 ho 5 Try.underlying22 info_one dp sp dLen dCap ps.length cp hd hs g off (zs.map gv) 5 hh (ps.map gv) (by rw [hcs]; exact (Nat.min_eq_left hdl).symm) ?_ (by rw [hcs, List.length_map]; exact hfit) ?_ g w (Below.refl _ _) (Nat.le_refl _) ?_
    · intro h0
      rw [hcs] at h0
      obtain ⟨b, off', e, hc⟩ := hr.el 0 h0
      refine ⟨hdp h0, ⟨b, off', none⟩, e, fun j v hj => ?_⟩
      subst e
      rw [List.getElem?_map] at hj
      by_cases hlt : j < ps.length
      · have hc := hr.cell j hlt
        rw [List.getElem?_eq_getElem hlt] at hj
        simp only [Option.map_some, Option.some.injEq] at hj
        subst hj
        rw [PM.el_lt hlt] at hc
        by_cases hj0 : j = 0
        · subst hj0; simpa [Addr.add, gv] using hc
        · simpa [Addr.add, hj0, gv] using hc
      · rw [List.getElem?_eq_none (by omega)] at hj; simp at hj
    · intro v hv
      obtain ⟨z, _, rfl⟩ := List.mem_map.1 hv
      rfl
    · intro w' hw' hb'
      rw [hcs]
      refine h w' ?_ hb'
      have hl2 : (splice zs off ps).length = zs.length := length_splice _ _ _ hfit
      have hh' := hw'.out
      rw [map_splice] at hh'
      refine ⟨by simp, .inr ⟨g, zs.length, _, by rw [hl2], hB, hh', by rw [hl2]; exact Nat.le_refl _, r2, by simp [hl2], ?_⟩⟩
      rw [List.take_of_length_le (by simp)]

theorem one_int : ((PM.G.one.v : Nat) : Int) = 1 := rfl
/-- What a call leaves that trims a slice of its own: the polynomial. -/
theorem trim_res {w : World} (f : PM.Co) {n cap g B : Nat} {ys : List PM.G} (hown : Own w B (.slice (some ⟨g, 0, none⟩) n cap) ys) (hl : ys.length ≤ 255) (hf : ∀ k, PM.el ys k = f k) :
    Calls Try.prog 42 #[.slice (some ⟨g, 0, none⟩) n cap] w fun e W => (∃ r a c, e = .returned (.slice a r.length c) ∧ Row W a r c ∧ Pol r ∧ (∀ k, PM.el r k = f k) ∧ (∀ b o, a = some ⟨b, o, none⟩ → b = g)) ∧ Below w.heap.size w W := by
  have hn := hown.len
  subst hn
  refine (trimmed_any _ ys cap w hown.rowAt).mono ?_
  rintro e W ⟨rfl, hB⟩
  obtain ⟨a', c', hc, hr, ha⟩ := hown.rowAt.cut
  rw [hc]
  refine ⟨⟨PM.trimL ys, a', c', rfl, hr.below hB, ⟨PM.can_trimL ys, by have := PM.trimL_len ys; omega⟩, fun k => by rw [PM.el_trimL, hf], fun b o e => ?_⟩, hB⟩
  have := ha b o e
  cases this; rfl

set_option maxRecDepth 100000 in
set_option maxHeartbeats 1000000 in
/-- **poly.Add** of two valid polynomials. -/
theorem add_yes (a b : Option Addr) (ca cb : Nat) (p q : List PM.G) (w : World) (ha : Row w a p ca) (hb : Row w b q cb) (hp : Pol p) (hq : Pol q) :
    Calls Try.prog 24 #[.slice a p.length ca, .slice b q.length cb] w fun e W => PRes (PM.addC (PM.el p) (PM.el q)) e W ∧ Below w.heap.size w W := by
  have hra := ha.room
  have hma := ha.most
  have hrb := hb.room
  have hmb := hb.most
  have hlp := hp.len
  have hlq := hq.len
  have HA := Lib.hid ha
  have HB := Lib.hid hb
  have HP := Lib.hid hp
  have HQ := Lib.hid hq
  clear ha hb hp hq
  obtain ⟨n, hn⟩ : ∃ n, max p.length q.length = n := ⟨_, rfl⟩
  have hn1 : p.length ≤ n := by omega
  have hn2 : q.length ≤ n := by omega
  have hn3 : n ≤ 255 := by omega
  have hmax : max (p.length : Int) (q.length : Int) = (n : Int) := by omega
  go_enter Try.func24, Try.ntmps24
  go_wp2_with fail
  refine (valid_yes a p ca w HA.out HP.out).mono ?_
  rintro e w1 ⟨rfl, hb1⟩
  have HB1 := Lib.hid (HB.out.below hb1)
  have HA1 := Lib.hid (HA.out.below hb1)
  go_wp2_with fail
  refine (valid_yes b q cb w1 HB1.out HQ.out).mono ?_
  rintro e w2 ⟨rfl, hb2⟩
  have HA2 := Lib.hid (HA1.out.below hb2)
  have HB2 := Lib.hid (HB1.out.below hb2)
  have HD2 := Lib.hid (hb1.trans (hb2.mono hb1.size))
  have hs2 := HD2.out.size
  clear hb1 hb2 HA1 HB1
  go_wp2_with (first
    | (at_make; refine wpList_make1 rfl _ _ rfl n rfl rfl (by omega) (by omega) (B := w2.heap.size) (Nat.le_refl _) ?_; intro w3 hown3 hb3; have HO3 := Lib.hid hown3; have HB3 := Lib.hid hb3; have HA3 := Lib.hid (HA2.out.below hb3); have HQ3 := Lib.hid (HB2.out.below hb3); clear hown3 hb3)
    | (refine wpList_copy1 (g := w2.heap.size) (B := w2.heap.size) (n := n) (off := 0) (zs := List.replicate n 0) (ps := p) rfl _ _ rfl (by have := HO3.out; rw [List.length_replicate] at this; exact this) rfl rfl (fun _ => rfl) (by omega) HA3.out (by rw [List.length_replicate]; omega) ?_; intro w4 hown4 hb4; have HO4 := Lib.hid hown4; have HB4 := Lib.hid hb4; clear hown4 hb4))
  have hlr : (List.replicate n (0 : PM.G)).length = n := List.length_replicate
  have hl4 : (splice (List.replicate n (0 : PM.G)) 0 p).length = n := by rw [length_splice _ _ _ (by rw [hlr]; omega), hlr]
  have hb3 := HB3.out
  have hb4 := HB4.out
  have hB24 : Below w2.heap.size w2 w4 := hb3.trans hb4
  have hO := HO4.out
  have hel4 : ∀ j, PM.el (splice (List.replicate n (0 : PM.G)) 0 p) j = PM.el p j := fun j => by
    rw [el_splice _ _ _ _ (by rw [hlr]; omega), if_neg (Nat.not_lt_zero _), Nat.sub_zero]
    split
    · rfl
    · rename_i h; rw [PM.el_replicate, PM.el_ge (by omega)]
  generalize splice (List.replicate n (0 : PM.G)) 0 p = zs at *
  have hlq2 : q.length ≤ zs.length := by omega
  have ht := addMul_any w2.heap.size w2.heap.size n 0 n n cb zs q b PM.G.one w4 (by rw [hl4]; exact hO) (HB2.out.below hB24) (by omega) hn2 (Nat.le_refl _) (by omega) (by
    intro h0 b' o e; subst e
    have := HB2.out.lt h0; omega)
  rw [one_int] at ht
  refine ht.mono ?_
  clear ht
  rintro e w5 ⟨ys, rfl, hl5, hel5, ho5, hg5⟩
  rw [hl5, hl4] at ho5
  have hs4 := hB24.size
  have hB5 : Below w2.heap.size w2 w5 := hB24.trans (grown_below hg5 (Nat.le_refl _) hs4)
  have hel : ∀ j, PM.el ys j = PM.addC (PM.el p) (PM.el q) j := fun j => by
    rw [hel5, hel4, if_neg (Nat.not_lt_zero _), PM.G.one_mul, Nat.sub_zero]; rfl
  have HT := Lib.hid (trim_res (PM.addC (PM.el p) (PM.el q)) ho5 (by omega) hel)
  have HB5 := Lib.hid (HD2.out.trans (hB5.mono hs2))
  have hs5 := HB5.out.size
  clear hB5 hel hg5 ho5 hel5 hl5 hel4 hO hB24 hb3 hb4 hlr hlq2 HO4 HB4 HO3 HB3 HA3 HQ3
  go_wp2_with fail
  refine HT.out.mono ?_
  rintro e w6 ⟨⟨r, a6, c6, rfl, hr, hpol, hco, _⟩, hb6⟩
  go_wp2_with fail
  exact bodyPost_ret (v := .tuple #[.slice a6 r.length c6, .int .i64 0]) (by simp [results, Try.results24, go_sem]) rfl ⟨⟨r, a6, c6, rfl, hr, hpol, hco⟩, HB5.out.trans (hb6.mono hs5)⟩

set_option maxHeartbeats 400000 in
theorem add_bad1 (a b : Option Addr) (ca cb : Nat) (p q : List PM.G) (w : World) (ha : Row w a p ca) (hp : ¬ Pol p) :
    Calls Try.prog 24 #[.slice a p.length ca, .slice b q.length cb] w fun e W => e = .returned (.tuple #[.slice none 0 0, .int .i64 1]) ∧ Below w.heap.size w W := by
  have HA := Lib.hid ha
  have HP := Lib.hid hp
  clear ha hp
  go_enter Try.func24, Try.ntmps24
  go_wp2_with fail
  refine (valid_no a p ca w HA.out HP.out).mono ?_
  rintro e w1 ⟨rfl, hb1⟩
  go_wp2
  exact bodyPost_ret (v := .tuple #[.slice none 0 0, .int .i64 1]) (by simp [results, Try.results24, go_sem]) rfl ⟨rfl, hb1⟩
set_option maxHeartbeats 400000 in
theorem add_bad2 (a b : Option Addr) (ca cb : Nat) (p q : List PM.G) (w : World) (ha : Row w a p ca) (hb : Row w b q cb) (hp : Pol p) (hq : ¬ Pol q) :
    Calls Try.prog 24 #[.slice a p.length ca, .slice b q.length cb] w fun e W => e = .returned (.tuple #[.slice none 0 0, .int .i64 1]) ∧ Below w.heap.size w W := by
  have HA := Lib.hid ha
  have HB := Lib.hid hb
  have HP := Lib.hid hp
  have HQ := Lib.hid hq
  clear ha hp hb hq
  go_enter Try.func24, Try.ntmps24
  go_wp2_with fail
  refine (valid_yes a p ca w HA.out HP.out).mono ?_
  rintro e w1 ⟨rfl, hb1⟩
  have HB1 := Lib.hid (HB.out.below hb1)
  go_wp2_with fail
  refine (valid_no b q cb w1 HB1.out HQ.out).mono ?_
  rintro e w2 ⟨rfl, hb2⟩
  go_wp2
  exact bodyPost_ret (v := .tuple #[.slice none 0 0, .int .i64 1]) (by simp [results, Try.results24, go_sem]) rfl ⟨rfl, hb1.trans (hb2.mono hb1.size)⟩
end Go.Proofs.Ytfbogjibofeckaa.P
