/- nat.Print. -/
import Derived.Test.YtamniclnhenmgaaDoorValid
import Derived.Test.YtamniclnhenmgaaDoorAdd
import Derived.Test.YtamniclnhenmgaaDoorShrink
import Derived.Test.YtamniclnhenmgaaDoorDup
import Derived.Test.YtamniclnhenmgaaDoorLib
import Derived.Test.YtamniclnhenmgaaDoorDec
import Derived.Laws.BytesArg
namespace Go.Proofs.YtamniclnhenmgaaDoor
open Go Go.RowKit Go.Shelf

/-- The length of a slice. -/
def lenOf : Value → Nat | .slice _ n _ => n | _ => 0

def PrRel (w : World) (n Bd : Nat) (d r : Value) (W : World) : Prop :=
  ∃ (j : Nat) (a : Option Addr) (cap : Nat) (a2 : Option Addr) (cap2 : Nat), r = .slice a (M.dig (n / 10 ^ (9 * j))).length cap ∧ Own W w.heap.size (.slice a (M.dig (n / 10 ^ (9 * j))).length cap) (M.dig (n / 10 ^ (9 * j))) ∧
    (∀ g, (Value.slice a (M.dig (n / 10 ^ (9 * j))).length cap).ownBlock = some g → g < Bd) ∧ d = .slice a2 (9 * j) cap2 ∧ OwnB W Bd (.slice a2 (9 * j) cap2) (M.dg (9 * j) n) ∧ j + (M.dig (n / 10 ^ (9 * j))).length ≤ 200 ∧ Below w.heap.size w W ∧ Bd ≤ W.heap.size

def PrIn (w : World) (vq : Value) (D : List Nat) (qs : List Int) (c g Bd : Nat) (d gr i : Value) (W : World) : Prop :=
  ∃ (k gk : Nat) (a2 : Option Addr) (cap2 : Nat), i = .int .i64 (k : Int) ∧ k ≤ 9 ∧ gr = .int .i64 (gk : Int) ∧ gk = g / 10 ^ k ∧ gk < 1000000000 ∧ d = .slice a2 (c + k) cap2 ∧ OwnB W Bd (.slice a2 (c + k) cap2) (D ++ M.dg k g) ∧ Own W w.heap.size vq qs ∧ Below w.heap.size w W ∧ Bd ≤ W.heap.size

def PrPost (n : Nat) (e : Ending) : Prop := ∃ k, n < 10 ^ k ∧ e = .returned (.string ⟨((M.decs k n).map UInt8.ofNat).toArray⟩)

theorem pr_app {w W W' : World} {N Bd : Nat} {vq vd : Value} {qs : List Int} {ds : List Nat} {o : Obj} (hO : Own W N vq qs) (hrest : ∀ g, vq.ownBlock = some g → g < Bd) (hD : OwnB W Bd vd ds) (hg : (W.alloc o).grownBy W' vd.ownBlock) (hBd : Bd ≤ W.heap.size) (hN : N ≤ Bd) (hbw : Below N w W) :
    Own W' N vq qs ∧ Below N w W' ∧ Bd ≤ W'.heap.size := by
  have hb : ∀ k, vd.ownBlock = some k → Bd ≤ k := fun k e => (World.ownsRow.lt hD k e).1
  refine ⟨World.ownsRow.kept (hO.alloc o) hg ?_, ((hbw.alloc (Nat.le_trans hN hBd) o).grown hg (by simp; omega) (fun k e => Nat.le_trans hN (hb k e))), Nat.le_trans hBd (Nat.le_trans (by simp) hg.size)⟩
  cases hv : vq.ownBlock with
  | none => exact .inl rfl
  | some k => exact .inr (by intro e; have := hrest k hv; have := hb k e.symm; omega)

theorem pr_conv {w w' : World} {g cap L : Nat} {bs : List Nat} (h : RevPost w g cap bs w') (hl : bs.length = L) :
    (convert 80 9 (.slice (some ⟨g, 0, none⟩) L cap)).run Tryd.prog w' = .ok (.string (strOfNums (bs.reverse.map fun (b : Nat) => (b : Int)))) w' := by
  refine run_convert_bytes_arg w' 80 5 Tryd.underlying80 Tryd.underlying5 g 0 L cap _ (by simp [hl]) (fun i hi => ?_) 9 Tryd.underlying9
  have hi' : i < bs.reverse.length := by simp; omega
  rw [Nat.zero_add, h.cells i hi', List.getD_eq_getElem?_getD, List.getElem?_map, List.getElem?_eq_getElem hi']
  rfl

theorem drop_bytes (l : List Nat) (h : ∀ b ∈ l, b < 256) : ((l.map fun (b : Nat) => (b : Int)).map fun n => UInt8.ofNat n.toNat).dropWhile (· == 48) = (l.dropWhile (· == 48)).map UInt8.ofNat := by
  induction l with
  | nil => rfl
  | cons b l ih =>
    have hb := h b (List.mem_cons_self ..)
    have i := ih (fun x hx => h x (List.mem_cons_of_mem _ hx))
    simp only [List.map_cons, Int.toNat_natCast, List.dropWhile_cons]
    by_cases e : b = 48
    · subst e
      simp only [beq_self_eq_true, if_true]
      exact i
    · have e2 : (UInt8.ofNat b == 48) = false := by
        rw [beq_eq_false_iff_ne]
        intro hc
        have := congrArg UInt8.toNat hc
        rw [UInt8.toNat_ofNat'] at this
        have h48 : (48 : UInt8).toNat = 48 := rfl
        rw [h48] at this
        omega
      have e3 : (b == 48) = false := by rw [beq_eq_false_iff_ne]; exact e
      rw [e2, e3]
      simp

theorem ownBlock_len (a : Option Addr) (n c n' c' : Nat) : (Value.slice a n c).ownBlock = (Value.slice a n' c').ownBlock := by cases a <;> rfl
theorem ownBlock_cut {a : Option Addr} {c : Nat} {ts : List Int} {n' c' Bd : Nat} (h : ∀ g, (Value.slice a n' c').ownBlock = some g → g < Bd) : ∀ g, (cut a c ts).ownBlock = some g → g < Bd := by
  unfold cut
  split
  · intro g e; cases e
  · intro g e; exact h g ((ownBlock_len _ _ _ _ _).trans e)

theorem dig_shorter {m : Nat} (h : 0 < m) : (M.dig (m / 1000000000)).length < (M.dig m).length := by
  have h1 := M.dig_len_le.1 (Nat.le_refl (M.dig m).length)
  have h0 : (M.dig m).length ≠ 0 := by intro e; have := M.dig_nil.1 (List.length_eq_zero_iff.1 e); omega
  obtain ⟨k, hk⟩ := Nat.exists_eq_succ_of_ne_zero h0
  rw [hk] at h1 ⊢
  have : (M.dig (m / 1000000000)).length ≤ k := M.dig_len_le.2 (by rw [Nat.pow_succ] at h1; omega)
  omega

set_option maxRecDepth 100000 in
set_option maxHeartbeats 2000000 in
theorem print_pos (a : Option Addr) (cap n : Nat) (w : World) (hn : 0 < n) (hlen : (M.dig n).length ≤ 200) (hR : Row w a (M.dig n) cap) :
    Calls Tryd.prog 39 #[.agg #[.slice a (M.dig n).length cap]] w fun e W' => PrPost n e ∧ Below w.heap.size w W' := by
  have Hv := Lib.hid (vld_dig hlen)
  have h0 : 0 < (M.dig n).length := by
    rcases Nat.eq_zero_or_pos (M.dig n).length with h | h
    · have := M.dig_nil.1 (List.length_eq_zero_iff.1 h); omega
    · exact h
  have hb1 := (Below.refl _ w).alloc (Nat.le_refl _) (.cells #[.slice a (M.dig n).length cap] 24)
  have c0 := cell_new w (.slice a (M.dig n).length cap) 24
  have hs1 : (w.alloc (.cells #[.slice a (M.dig n).length cap] 24)).heap.size = w.heap.size + 1 := by simp
  have HR := Lib.hid (hR.below hb1)
  have hca := hR.room
  have hcm := hR.most
  clear hR
  go_enter Tryd.func39, Tryd.ntmps39
  go_wp2_with fail
  generalize (w.alloc (.cells #[.slice a (M.dig n).length cap] 24)) = w1 at *
  have HS1 := Lib.hid hs1
  have HB1 := Lib.hid hb1
  have hlt1 : w.heap.size < w1.heap.size := by omega
  clear hs1 hb1
  refine (valid_yes a _ cap _ HR.out Hv.out).mono ?_
  rintro e w2 ⟨rfl, hb2⟩
  have c2 := (hb2.cell (p := ⟨w.heap.size, 0, none⟩) hlt1).trans c0
  have HB2 := Lib.hid (HB1.out.trans (hb2.mono (by have := HS1.out; omega)))
  have hcl := clone_any a (M.dig n) cap w2 (HR.out.below hb2) h0 (by omega)
  have hs2 := hb2.size
  have HCL := Lib.hid hcl
  clear hcl hb2 c0
  go_wp2_with fail
  refine HCL.out.mono ?_
  rintro e w3 ⟨a', cap', rfl, ho3, hb3⟩
  have HO3 := Lib.hid ho3
  have HB3 := Lib.hid hb3
  clear ho3 hb3 c2 HCL
  go_wp2_with fail
  go_loopw [3, 4] (fun d r wr => PrRel w n w3.heap.size d r wr) (fun _ r _ => lenOf r)
  case atStart =>
    refine ⟨0, a', cap', none, 0, by simp, by simpa using HO3.out.mono (by omega), fun g hg => (World.ownsRow.lt HO3.out g (by simpa using hg)).2, rfl, OwnB.nil _ _, by simpa using hlen, HB2.out.trans (HB3.out.mono (by omega)), Nat.le_refl _⟩
  case round =>
    obtain ⟨j, a1, cap1, a2, cap2, rfl, ho, hg, rfl, hd, hj, hbW, hBd⟩ := hrel
    have hN : w.heap.size ≤ w3.heap.size := by have := HB2.out.size; have := HB3.out.size; omega
    have hgr : ∀ k, (Value.slice a2 (9 * j) cap2).ownBlock = some k → w3.heap.size ≤ k := fun k e => (World.ownsRow.lt hd k e).1
    obtain ⟨m, hm⟩ : ∃ m, m = n / 10 ^ (9 * j) := ⟨_, rfl⟩
    rw [← hm] at ho hg hj ⊢
    have HM := Lib.hid hm
    have HD := Lib.hid hd
    have HG := Lib.hid hg
    have HBW := Lib.hid hbW
    have HGR := Lib.hid hgr
    have HO := Lib.hid ho
    clear hm hd hg hbW hgr
    by_cases h0m : 0 < m
    · have hl0 : 0 < (M.dig m).length := by
        rcases Nat.eq_zero_or_pos (M.dig m).length with h | h
        · have := M.dig_nil.1 (List.length_eq_zero_iff.1 h); omega
        · exact h
      have hsh : Calls Tryd.prog 77 #[.slice a1 (M.dig m).length cap1, .int .i64 1000000000] wr _ := shrink_any w.heap.size a1 cap1 (M.dig m) 1000000000 wr (by omega) (by omega) (M.lim_dig m) ho
      have hnat := M.shr_nat (d := 1000000000) (by omega) (M.lim_dig m) (M.val_dig m)
      rw [hnat.2] at hsh
      have hqlen := M.shr_len ((1000000000 : Nat) : Int) (M.dig m)
      have hTR := hnat.1
      generalize (M.shr ((1000000000 : Nat) : Int) (M.dig m)).2 = qs at *
      have HSH := Lib.hid hsh
      have HTR := Lib.hid hTR
      have HQ := Lib.hid hqlen
      clear hsh hTR hqlen hnat ho
      go_wp2_with fail
      refine HSH.out.mono ?_
      rintro e w4 ⟨rfl, ho4, hg4⟩
      have hd4 := HD.out.kept hg4 HG.out
      have hb4 := below_of_grown HO.out hg4 (by have := HBW.out.size; omega)
      have hB4 : w3.heap.size ≤ w4.heap.size := Nat.le_trans hBd hb4.size
      rw [← HQ.out] at ho4
      have HO4 := Lib.hid ho4
      have HD4 := Lib.hid hd4
      have HB4 := Lib.hid (HBW.out.trans hb4)
      clear ho4 hd4 hb4 hg4 HSH
      obtain ⟨g, hgm⟩ : ∃ g, g = m % 1000000000 := ⟨_, rfl⟩
      rw [← hgm]
      have HGM := Lib.hid hgm
      clear hgm
      go_wp2_with fail
      have hg9 : g < 1000000000 := by rw [HGM.out]; omega
      go_loopw [3, 5, 23] (fun d gr i wr => PrIn w (.slice a1 qs.length cap1) (M.dg (9 * j) n) qs (9 * j) g w3.heap.size d gr i wr) (fun _ _ i _ => 9 - (intOf i).toNat)
      case atStart => exact ⟨0, g, a2, cap2, rfl, by omega, rfl, by simp, hg9, rfl, by simpa [M.dg] using HD4.out, HO4.out, HB4.out, hB4⟩
      case round =>
        obtain ⟨k, gk, a3, cap3, rfl, hk, rfl, hgk, hgk9, rfl, hd, ho, hbW, hBd2⟩ := hrel
        have HGK := Lib.hid hgk
        have HD := Lib.hid hd
        have HO := Lib.hid ho
        have HBW := Lib.hid hbW
        have hcl : (M.dg (9 * j) n ++ M.dg k g).length = 9 * j + k := by rw [List.length_append, M.dg_len, M.dg_len]
        have HCL := Lib.hid hcl
        clear hgk hd ho hbW hcl HD4 HO4 HB4
        by_cases hlt : k < 9
        · go_wp2_with (at_builtin; refine wpList_appB rfl _ _ rfl (48 + gk % 10) rfl (HD.out.alloc _) rfl (cell_new _ _ _) (by omega) (by rw [HCL.out]; omega) (by simp; omega) ?_; intro a' cap' W' hown' hgr')
          go_roundw
          case rel =>
            obtain ⟨p1, p2, p3⟩ := pr_app HO.out (fun x e => HG.out x ((ownBlock_len _ _ _ _ _).trans e)) HD.out hgr' hBd2 hN HBW.out
            refine ⟨k + 1, gk / 10, a', cap', by go_num, by omega, by go_num, by rw [HGK.out, Nat.div_div_eq_div_mul, Nat.pow_succ], by omega, by rw [M.dg_len, M.dg_len, Nat.add_assoc], ?_, p1, p2, p3⟩
            rw [M.dg_snoc, ← List.append_assoc, ← HGK.out]
            have : (M.dg (9 * j) n ++ M.dg k g ++ [48 + gk % 10]).length = 9 * j + (k + 1) := by rw [List.length_append, HCL.out]; rfl
            rw [this] at hown'
            exact hown'
          case measure => simp [intOf]; omega
        · have hk9 : k = 9 := by omega
          have hd9 := HD.out
          rw [hk9, HGM.out, show (1000000000 : Nat) = 10 ^ 9 from rfl, M.dg_mod, HM.out, ← M.dg_add, show 9 * j + 9 = 9 * (j + 1) from by omega] at hd9
          have htr := trim_any a1 qs cap1 wr HO.out.rowAt
          have hot := HO.out.trimmed
          have hcutb := ownBlock_cut (c := cap1) (ts := M.dig (m / 1000000000)) HG.out
          rw [HTR.out] at htr hot
          rw [HQ.out] at htr
          obtain ⟨a5, cap5, hcut⟩ := cut_slice a1 cap1 (M.dig (m / 1000000000))
          rw [hcut] at htr hot hcutb
          have hmn : m / 1000000000 = n / 10 ^ (9 * (j + 1)) := by rw [HM.out, Nat.div_div_eq_div_mul, show 9 * (j + 1) = 9 * j + 9 from by omega, Nat.pow_add]
          have hsh := dig_shorter h0m
          have HMN := Lib.hid hmn
          have HT := Lib.hid htr
          have HOT := Lib.hid hot
          have HCB := Lib.hid hcutb
          have HD9 := Lib.hid hd9
          have HK9 := Lib.hid hk9
          clear htr hot hcutb hd9 hk9 hcut hmn HD HO
          go_wp2_with (go_at_call 78; refine HT.out.mono ?_; rintro e w6 ⟨rfl, hb6⟩)
          go_roundw
          case rel =>
            refine ⟨j + 1, a5, cap5, a3, cap3, by rw [← HMN.out], by rw [← HMN.out]; exact HOT.out.below hb6, by rw [← HMN.out]; exact HCB.out, by rw [HK9.out]; rfl, HD9.out.below hb6, by rw [← HMN.out]; omega, HBW.out.trans (hb6.mono HBW.out.size), Nat.le_trans hBd2 hb6.size⟩
          case measure => exact hsh
    · have hm0 : m = 0 := by omega
      have hnk : n < 10 ^ (9 * j) := by
        have := HM.out
        rw [hm0] at this
        exact Nat.lt_of_div_eq_zero (Nat.pow_pos (by omega)) this.symm
      have hj0 : 0 < j := by
        rcases Nat.eq_zero_or_pos j with h | h
        · rw [h] at hnk; simp at hnk; omega
        · exact h
      subst hm0
      rw [M.dig_zero]
      have hdl := M.dg_len (9 * j) n
      obtain ⟨g, rfl, hgB, hgW, h3, h4, hcells⟩ := HD.out.parts (by rw [hdl]; omega)
      have hrev := reverse_any g cap2 (M.dg (9 * j) n) wr (by rw [hdl]; omega) hcells
      rw [hdl] at hrev
      have HNK := Lib.hid hnk
      have HRV := Lib.hid hrev
      have HDL := Lib.hid hdl
      clear hnk hrev hdl hcells ho h0m HO HG
      obtain ⟨S, hS⟩ : ∃ S, S = strOfNums ((M.dg (9 * j) n).reverse.map fun (b : Nat) => (b : Int)) := ⟨_, rfl⟩
      have hSs : S.size ≤ 9223372036854775807 := by rw [hS, strOfNums_size, List.length_map, List.length_reverse, HDL.out]; omega
      have HSS := Lib.hid hS
      clear hS
      go_wp2_with (first | (go_at_call 81; refine HRV.out.mono ?_; rintro e w6 ⟨rfl, hrp⟩; have hcv := pr_conv hrp HDL.out; rw [← HSS.out] at hcv; have HRP := Lib.hid hrp; clear hrp) | (go_at_call 82; refine (trimLeft_zero S _ hSs).mono ?_; rintro e w7 ⟨rfl, rfl⟩))
      go_ret
      refine ⟨⟨9 * j, HNK.out, ?_⟩, HBW.out.trans (HRP.out.below _ (by omega) HBW.out.size)⟩
      rw [HSS.out, strOfNums_data, drop_bytes _ (fun b hb => by have := M.dg_byte _ _ b (List.mem_reverse.1 hb); omega)]
      rfl
end Go.Proofs.YtamniclnhenmgaaDoor
