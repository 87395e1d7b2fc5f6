/- made.Light, Roll, Dice.Bytes, Dice.Poly, Dice.One. -/
import Derived.Test.YtfbogjibofeckaaPDice
namespace Go.Proofs.Ytfbogjibofeckaa.P
open Go Go.RowKit Go.Shelf

theorem light_any (a : Option Addr) (n cap : Nat) (w : World) :
    Calls Try.prog 11 #[.slice a n cap] w fun e W' => e = .returned (.bool (decide ((n : Int) ≤ 400))) ∧ W' = w := by
  go_enter Try.func11, Try.ntmps11
  go_wp2_with fail
  go_ret
  exact ⟨rfl, rfl⟩
theorem roll_dice {a : Option Addr} {cap : Nat} {ts : List Int} {w : World} (hr : IRow w a ts cap) (hf : ts.length ≤ 400) (t : TypeId) : Dice (w.alloc (.cells #[.slice a ts.length cap, .int .i64 0] t)) w.heap.size a cap ts 0 := by
  have hb : (w.alloc (.cells #[.slice a ts.length cap, .int .i64 0] t)).heap[w.heap.size]? = some (.cells #[.slice a ts.length cap, .int .i64 0] t) := Array.getElem?_push_size
  refine ⟨?_, ?_, ?_, hr.alloc _, Nat.zero_le _, hf, fun b off e hl => ?_⟩
  · rw [cell_of_row _ _ 0 _ _ _ hb]; rfl
  · rw [cell_of_row _ _ 1 _ _ _ hb]; rfl
  · unfold World.frozen?; rw [hb]; rfl
  · obtain ⟨b', off', e', hc⟩ := hr.el 0 hl
    rw [e] at e'; cases e'
    have h := lt_of_cell hc
    exact Nat.ne_of_lt h
theorem roll_any (a : Option Addr) (cap : Nat) (ts : List Int) (w : World) (hr : IRow w a ts cap) (hf : ts.length ≤ 400) :
    Calls Try.prog 12 #[.slice a ts.length cap] w fun e W' => e = .returned (.pointer (some ⟨w.heap.size, 0, none⟩)) ∧ Dice W' w.heap.size a cap ts 0 ∧ Below w.heap.size w W' := by
  go_enter Try.func12, Try.ntmps12
  go_wp2_with fail
  go_ret
  refine ⟨rfl, roll_dice hr hf _, (Below.refl _ w).alloc (Nat.le_refl _) _⟩

theorem Dice.belowAt {W W' : World} {B dp : Nat} {a : Option Addr} {cap : Nat} {ts : List Int} {k : Nat} (h : Dice W dp a cap ts k) (hb : Below B W W') (hdp : dp < B) (hf : ∀ b off, a = some ⟨b, off, none⟩ → 0 < ts.length → b < B) : Dice W' dp a cap ts k :=
  ⟨(hb.cell (p := ⟨dp, 0, none⟩) hdp).trans h.list, (hb.cell (p := ⟨dp, 1, none⟩) hdp).trans h.at', (hb.frozen (p := ⟨dp, 1, none⟩) hdp).trans h.free,
    ⟨h.row.room, h.row.most, fun j hj => by
      obtain ⟨b, off, e, hc⟩ := h.row.el j hj
      exact ⟨b, off, e, (hb.cell (p := ⟨b, off + j, none⟩) (hf b off e (by omega))).trans hc⟩⟩, h.least, h.few, h.other⟩
theorem Dice.far {W : World} {dp : Nat} {a : Option Addr} {cap : Nat} {ts : List Int} {k : Nat} (h : Dice W dp a cap ts k) : ∀ b off, a = some ⟨b, off, none⟩ → 0 < ts.length → b < W.heap.size := fun b off e h0 => by
  obtain ⟨b', off', e', hc⟩ := h.row.el 0 h0
  rw [e] at e'; cases e'
  exact lt_of_cell hc
theorem grown_then {w W W' : World} {row : Option Nat} (h : w.grownBy W row) (hb : Below w.heap.size W W') : w.grownBy W' row :=
  ⟨hb.os.trans h.os, hb.tape.trans h.tape, hb.output.trans h.output, Nat.le_trans h.size hb.size, fun k hk hne => (hb.block k hk).trans (h.block k hk hne)⟩

/-- What Bytes leaves. -/
def BytesPost (w : World) (dp : Nat) (a : Option Addr) (cap : Nat) (ts : List Int) (n : Nat) (e : Ending) (W : World) : Prop :=
  ∃ (bs : List PM.G) (a' : Option Addr) (c k' : Nat), bs.length = n ∧ e = .returned (.slice a' n c) ∧ Own W w.heap.size (.slice a' n c) bs ∧ Dice W dp a cap ts k' ∧ w.grownBy W (some dp)
def BytesRel (w : World) (dp : Nat) (a : Option Addr) (cap : Nat) (ts : List Int) (n : Nat) (m b : Value) (W : World) : Prop :=
  ∃ (j k' c : Nat) (a' : Option Addr) (bs : List PM.G), m = .int .i64 (j : Int) ∧ j ≤ n ∧ bs.length = n - j ∧ b = .slice a' (n - j) c ∧ Own W w.heap.size (.slice a' (n - j) c) bs ∧ Dice W dp a cap ts k' ∧ w.grownBy W (some dp)

set_option maxRecDepth 100000 in
set_option maxHeartbeats 1000000 in
theorem bytes_any (w : World) (dp : Nat) (a : Option Addr) (cap : Nat) (ts : List Int) (k n : Nat) (hn : n ≤ 100000) (hD : Dice w dp a cap ts k) :
    Calls Try.prog 20 #[.pointer (some ⟨dp, 0, none⟩), .int .i64 (n : Int)] w (BytesPost w dp a cap ts n) := by
  have hdp := hD.lt
  have hfar := hD.far
  have HD := Lib.hid hD
  have HF := Lib.hid hfar
  clear hD hfar
  go_enter Try.func20, Try.ntmps20
  go_wp2
  go_loopw [1, 5] (fun m b wr => BytesRel w dp a cap ts n m b wr) (fun m _ _ => (intOf m).toNat)
  case atStart => exact ⟨n, k, 0, none, [], rfl, Nat.le_refl _, by simp, by rw [Nat.sub_self], by rw [Nat.sub_self]; exact Own.nil _ _, HD.out, World.grownBy.refl _ _⟩
  case round =>
    obtain ⟨j, k', c, a', bs, rfl, hj, hlen, rfl, hown, hd, hg⟩ := hrel
    have HLN := Lib.hid hlen
    have HO := Lib.hid hown
    have HDD := Lib.hid hd
    have HG := Lib.hid hg
    have hsz := hg.size
    clear hlen hown hd hg
    cases j with
    | zero =>
      go_wp2
      go_ret
      exact ⟨bs, a', c, k', by have := HLN.out; omega, rfl, HO.out, HDD.out, HG.out⟩
    | succ j =>
      have e1 : ((j + 1 : Nat) : Int) = (j : Int) + 1 := rfl
      have hnx := next_any wr dp a cap ts k' 256 (by omega) (by omega) HDD.out
      have HNX := Lib.hid hnx
      clear hnx
      go_wp2_with fail
      refine HNX.out.mono ?_
      rintro e w2 ⟨r, k2, hr, rfl, hd2, hg2⟩
      have HD2 := Lib.hid hd2
      have HG2 := Lib.hid hg2
      have hs2 := hg2.size
      have HO2 := Lib.hid (HO.out.grown hg2 (by
        cases hv : (Value.slice a' (n - (j + 1)) c).ownBlock with
        | none => exact .inl rfl
        | some g => exact .inr (by intro e; cases e; have := (World.ownsRow.lt HO.out _ hv).1; omega)))
      have hGV : ((⟨r, hr⟩ : PM.G).v : Int) = (r : Int) := rfl
      clear hd2 hg2
      go_wp2_with (at_builtin; refine wpList_app1 rfl _ _ rfl (⟨r, hr⟩ : PM.G) rfl (HO2.out.alloc _) rfl (cell_new _ _ _) rfl (by have := HLN.out; omega) (by simp; omega) ?_; intro a3 cap3 w3 hown3 hg3 hb3)
      go_roundw
      case rel =>
        have hlb : (bs ++ [(⟨r, hr⟩ : PM.G)]).length = n - j := by rw [List.length_append, HLN.out]; simp; omega
        have hbl : bs.length + 1 = n - j := by rw [HLN.out]; omega
        have hbw : Below w.heap.size w2 w3 := ((Below.refl w.heap.size w2).alloc (by omega) _).trans hb3
        refine ⟨j, k2, cap3, a3, bs ++ [⟨r, hr⟩], by go_num, by omega, hlb, by rw [hbl], by rw [← hlb]; exact hown3, HD2.out.belowAt hbw hdp HF.out, grown_then (grown_trans HG.out HG2.out) hbw⟩
      case measure => simp [intOf]

/-- What Poly leaves: a valid polynomial of at most n elements, in memory of the call's own. -/
def PolyPost (w : World) (dp : Nat) (a : Option Addr) (cap : Nat) (ts : List Int) (n : Nat) (e : Ending) (W : World) : Prop :=
  ∃ (r : List PM.G) (a' : Option Addr) (c k' : Nat), e = .returned (.slice a' r.length c) ∧ r.length ≤ n ∧ PM.Can r ∧ Row W a' r c ∧ (∀ b o, a' = some ⟨b, o, none⟩ → w.heap.size ≤ b) ∧ Dice W dp a cap ts k' ∧ w.grownBy W (some dp)
def PolyRel (w2 : World) (a' : Option Addr) (c : Nat) (bs : List PM.G) (b m : Value) (W : World) : Prop :=
  ∃ j : Nat, m = .int .i64 (j : Int) ∧ j ≤ bs.length ∧ b = .slice a' j c ∧ (∀ i, j ≤ i → PM.el bs i = 0) ∧ W = w2

set_option maxRecDepth 100000 in
set_option maxHeartbeats 1000000 in
theorem poly_any (w : World) (dp : Nat) (a : Option Addr) (cap : Nat) (ts : List Int) (k n : Nat) (hn : n ≤ 1000) (hD : Dice w dp a cap ts k) :
    Calls Try.prog 13 #[.pointer (some ⟨dp, 0, none⟩), .int .i64 (n : Int)] w (PolyPost w dp a cap ts n) := by
  have HNX := Lib.hid (next_any w dp a cap ts k (n + 1) (by omega) (by omega) hD)
  have hdp := hD.lt
  clear hD
  go_enter Try.func13, Try.ntmps13
  go_wp2_with fail
  refine HNX.out.mono ?_
  rintro e w1 ⟨r, k1, hr, rfl, hd1, hg1⟩
  have HB := Lib.hid (bytes_any w1 dp a cap ts k1 r (by omega) hd1)
  have HG1 := Lib.hid hg1
  have hs1 := hg1.size
  clear hd1 hg1
  go_wp2_with fail
  refine HB.out.mono ?_
  rintro e w2 ⟨bs, a', c, k2, hlen, rfl, hown, hd2, hg2⟩
  subst hlen
  have HO := Lib.hid hown
  have HD2 := Lib.hid hd2
  have HG2 := Lib.hid hg2
  have HR := Lib.hid hown.rowAt
  have hroom := hown.rowAt.room
  have hmost := hown.rowAt.most
  clear hown hd2 hg2
  go_wp2
  go_loopw [5, 6] (fun b m wr => PolyRel w2 a' c bs b m wr) (fun _ m _ => (intOf m).toNat)
  case atStart => exact ⟨bs.length, rfl, Nat.le_refl _, rfl, fun i hi => PM.el_ge hi, rfl⟩
  case round =>
    obtain ⟨j, rfl, hj, rfl, hz, hw⟩ := hrel
    subst hw
    have HZ := Lib.hid hz
    clear hz
    have fin : j = 0 ∨ PM.el bs (j - 1) ≠ 0 → PolyPost w dp a cap ts n (.returned (.slice a' j c)) wr := fun hor => by
      have hlt : (bs.take j).length = j := by rw [List.length_take]; omega
      refine ⟨bs.take j, a', c, k2, by rw [hlt], by omega, fun h0 => ?_, HR.out.take j, fun b o e => ?_, HD2.out, grown_trans HG1.out HG2.out⟩
      · rw [hlt] at h0 ⊢
        rw [PM.el_take, if_pos (by omega)]
        rcases hor with h | h
        · omega
        · exact h
      · rcases HO.out.parts with ⟨e2, _⟩ | ⟨g, c', e2, hB, _⟩
        · simp only [Value.slice.injEq] at e2; obtain ⟨rfl, _, _⟩ := e2; cases e
        · simp only [Value.slice.injEq] at e2; obtain ⟨rfl, _, _⟩ := e2; cases e; omega
    have HFIN := Lib.hid fin
    clear fin
    cases j with
    | zero =>
      go_wp2
      go_ret
      exact HFIN.out (.inl (by first | rfl | trivial))
    | succ j =>
      have e1 : ((j + 1 : Nat) : Int) = (j : Int) + 1 := rfl
      obtain ⟨b, off, rfl, hc⟩ := HR.out.el j (by omega)
      by_cases h0 : PM.el bs j = 0
      · have hb0 := gv_eq0 h0
        have H0 := Lib.hid h0
        clear h0
        go_wp2
        go_roundw
        case rel => exact ⟨j, by go_num, by omega, rfl, fun i hi => by
          by_cases e : i = j
          · rw [e]; exact H0.out
          · exact HZ.out i (by omega), rfl⟩
        case measure => simp [intOf]
      · have hb0 := gv_neq h0
        have H0 := Lib.hid h0
        clear h0
        go_wp2
        go_ret
        exact HFIN.out (.inr H0.out)

/-- **Dice.One** -/
theorem one_any (w : World) (dp : Nat) (a : Option Addr) (cap : Nat) (ts : List Int) (k n : Nat) (hn : 0 < n) (hn2 : n ≤ 1000) (hD : Dice w dp a cap ts k) :
    Calls Try.prog 14 #[.pointer (some ⟨dp, 0, none⟩), .int .i64 (n : Int)] w fun e W => ∃ (t : Bool) (k' : Nat), e = .returned (.bool t) ∧ Dice W dp a cap ts k' ∧ w.grownBy W (some dp) := by
  have HNX := Lib.hid (next_any w dp a cap ts k n hn (by omega) hD)
  clear hD
  go_enter Try.func14, Try.ntmps14
  go_wp2_with fail
  refine HNX.out.mono ?_
  rintro e w1 ⟨r, k1, hr, rfl, hd1, hg1⟩
  go_wp2
  go_ret
  exact ⟨_, k1, rfl, hd1, hg1⟩
end Go.Proofs.Ytfbogjibofeckaa.P
