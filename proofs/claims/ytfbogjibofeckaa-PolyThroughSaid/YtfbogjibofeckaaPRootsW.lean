/- The statement PolyRoots: the walk. -/
import Derived.Deep.CutBlock
import Derived.Deep.DeepCutAuto
import Derived.Test.YtfbogjibofeckaaPBool
namespace Go.Proofs.Ytfbogjibofeckaa.P
open Go Go.RowKit Go.Shelf

def R1 (w : World) (dp gt gw : Nat) (a : Option Addr) (cap : Nat) (ts : List Int) (pv nv : Value) (W : World) : Prop :=
  ∃ (j k' : Nat) (p : List PM.G) (a' : Option Addr) (c' : Nat) (tw : Nat → Bool), nv = .int .i64 (j : Int) ∧ pv = .slice a' p.length c' ∧ Row W a' p c' ∧ (∀ b o, a' = some ⟨b, o, none⟩ → b ≠ dp) ∧ Pol p ∧ 0 < p.length ∧ p.length + j ≤ 11 ∧
    Dice W dp a cap ts k' ∧ BRow W gt (fun k => decide (PM.ev p (ofN k) = 0)) ∧ BRow W gw tw ∧ Dbl p tw ∧ Below w.heap.size w W
def R2 (w : World) (dp gt gw : Nat) (a : Option Addr) (cap : Nat) (ts : List Int) (p : List PM.G) (a' : Option Addr) (c' : Nat) (al : Option Addr) (cl : Nat) (tw : Nat → Bool) (kv xv : Value) (W : World) : Prop :=
  ∃ (x k' : Nat), xv = .int .i64 (x : Int) ∧ x ≤ 256 ∧ kv = .int .i64 ((rootsTo p x).length : Int) ∧ Row W a' p c' ∧ Row W al (rootsL p) cl ∧ Dice W dp a cap ts k' ∧ BRow W gt (fun k => decide (PM.ev p (ofN k) = 0)) ∧ BRow W gw tw ∧ Below w.heap.size w W
theorem pol_one : Pol [PM.G.one] := ⟨by intro _; decide, by decide⟩
theorem ev_one (x : PM.G) : PM.ev [PM.G.one] x = PM.G.one := by
  show PM.evn 1 (PM.el [PM.G.one]) x = _
  rw [PM.evn_succ, show PM.evn 0 (PM.sh (PM.el [PM.G.one])) x = 0 from rfl, PM.G.mul_zero, PM.G.add_zero]; rfl
theorem pol_lin (r : PM.G) : Pol [r, PM.G.one] := ⟨fun _ => PM.G.one_ne, (by decide : 2 ≤ 255)⟩

theorem next10 (w : World) (dp : Nat) (a : Option Addr) (cap : Nat) (ts : List Int) (k : Nat) (hD : Dice w dp a cap ts k) :
    Calls Try.prog 19 #[.pointer (some ⟨dp, 0, none⟩), .int .i64 10] w (NextPost w dp a cap ts 10) := next_any w dp a cap ts k 10 (by decide) (by decide) hD
theorem next256 (w : World) (dp : Nat) (a : Option Addr) (cap : Nat) (ts : List Int) (k : Nat) (hD : Dice w dp a cap ts k) :
    Calls Try.prog 19 #[.pointer (some ⟨dp, 0, none⟩), .int .i64 256] w (NextPost w dp a cap ts 256) := next_any w dp a cap ts k 256 (by decide) (by decide) hD

set_option maxRecDepth 100000 in
set_option maxHeartbeats 4000000 in
theorem polyRoots_any (a : Option Addr) (cap : Nat) (ts : List Int) (w : World) (hA : IRow w a ts cap) :
    Calls Try.prog 7 #[.slice a ts.length cap] w fun e W => e = .returned (.bool true) ∧ Below w.heap.size w W := by
  have hfar : ∀ b off, a = some ⟨b, off, none⟩ → 0 < ts.length → b < w.heap.size := fun b off e h0 => by
    obtain ⟨b', off', e', hc⟩ := hA.el 0 h0
    rw [e] at e'; cases e'
    exact lt_of_cell hc
  have HA := Lib.hid hA
  have HF := Lib.hid hfar
  clear hA hfar
  by_cases hL : ts.length ≤ 400
  · have hLt : decide ((ts.length : Int) ≤ 400) = true := decide_eq_true (by omega)
    go_enter Try.func7, Try.ntmps7
    go_wp2_with fail
    (with_reducible refine (light_any a ts.length cap w).mono ?_)
    rintro e w' ⟨rfl, rfl⟩
    rw [hLt]
    go_wp2_with fail
    (with_reducible refine (roll_any a cap ts w' HA.out hL).mono ?_)
    rintro e w0 ⟨rfl, hd, hb⟩
    obtain ⟨dp, hdpe⟩ : ∃ dp, w'.heap.size = dp := ⟨_, rfl⟩
    rw [hdpe] at hd
    have hdl := hd.lt
    have hd1 := hd.alloc (.cells #[.int .u8 1] 5)
    have hb1 := hb.alloc hb.size (.cells #[.int .u8 1] 5)
    have hr1 := row_one w0 PM.G.one 5
    rw [one_int] at hr1
    rw [hdpe]
    go_upto_region 5 with fail
    have hs1 : (w0.alloc (.cells #[.int .u8 1] 5)).heap.size = w0.heap.size + 1 := by simp
    generalize w0.alloc (.cells #[.int .u8 1] 5) = w1 at *
    have HD1 := Lib.hid hd1
    have HB1 := Lib.hid hb1
    have HR1 := Lib.hid hr1
    clear hd hb hd1 hb1 hr1
    go_upto_region 6 with (at_make; refine wpList_makeB rfl _ _ rfl rfl rfl ?_; intro w2 hbr hb2; have HT2 := Lib.hid hbr; have HB2 := Lib.hid hb2; clear hbr hb2)
    go_wp2_with (at_make; refine wpList_makeB rfl _ _ rfl rfl rfl ?_; intro w3 hbr hb3; have HW3 := Lib.hid hbr; have HB3 := Lib.hid hb3; clear hbr hb3)
    have hs2 := HB2.out.size
    have hs3 := HB3.out.size
    have hgt := HT2.out.lt
    have hd3 := (HD1.out.below HB2.out).below HB3.out
    have hr3 := (HR1.out.below HB2.out).below HB3.out
    have hb3 := (HB1.out.trans (HB2.out.mono HB1.out.size)).trans (HB3.out.mono (by have := HB1.out.size; omega))
    have ht3 := HT2.out.below HB3.out
    have HD3 := Lib.hid hd3
    have HR3 := Lib.hid hr3
    have HBB3 := Lib.hid hb3
    have HT3 := Lib.hid ht3
    clear hd3 hr3 hb3 ht3 HD1 HR1 HB1 HT2 HB2 HB3
    rw [hs1] at HT3 hgt
    obtain ⟨gt, hgte⟩ : ∃ gt, w0.heap.size + 1 = gt := ⟨_, rfl⟩
    obtain ⟨gw, hgwe⟩ : ∃ gw, w2.heap.size = gw := ⟨_, rfl⟩
    rw [hgte] at HT3 hgt ⊢
    rw [hgwe] at HW3 hgt ⊢
    go_wp2_with fail
    (with_reducible refine (next10 w3 dp a cap ts 0 HD3.out).mono ?_)
    rintro e w4 ⟨n0, k4, hn0, rfl, hd4, hg4⟩
    have hst : R1 w' dp gt gw a cap ts (.slice (some ⟨w0.heap.size, 0, none⟩) 1 1) (.int .i64 (n0 : Int)) w4 :=
      ⟨n0, k4, [PM.G.one], some ⟨w0.heap.size, 0, none⟩, 1, fun _ => false, rfl, rfl, HR3.out.grown hg4 (fun b o e => by cases e; intro h; cases h; omega), fun b o e => by cases e; omega, pol_one, by decide, by simp; omega, hd4,
        (HT3.out.grown hg4 (by omega)).as (fun k _ => by rw [ev_one]; exact decide_eq_false PM.G.one_ne), HW3.out.grown hg4 (by omega), (fun k _ h => by cases h), below_grown HBB3.out hg4 HBB3.out.size (fun k e => by cases e; omega)⟩
    have HST := Lib.hid hst
    clear hst hd4 hg4 HD3 HR3 HBB3 HT3 HW3
    go_wp2_with fail
    go_loopw [4, 7] (fun p n wr => R1 w' dp gt gw a cap ts p n wr) (fun _ n _ => (intOf n).toNat)
    case atStart => exact HST.out
    case round =>
      obtain ⟨j, k5, p, a', c', tw, rfl, rfl, hr, hne, hp, hp0, hlen, hd, ht, htw, hdb, hB⟩ := hrel
      have hrm := hr.room
      have hms := hr.most
      have HR := Lib.hid hr
      have HNE := Lib.hid hne
      have HP := Lib.hid hp
      have HD := Lib.hid hd
      have HT := Lib.hid ht
      have HW := Lib.hid htw
      have HDB := Lib.hid hdb
      have HB := Lib.hid hB
      clear hr hne hp hd ht htw hdb hB HST
      cases j with
      | zero =>
        go_wp2_with fail
        (with_reducible refine (roots_yes a' c' p wr HR.out HP.out hp0).mono ?_)
        rintro e w5 ⟨⟨al, cl, rfl, hrl⟩, hb5⟩
        have hrl1 := hrl.room
        have hrl2 := hrl.most
        have hst : R2 w' dp gt gw a cap ts p a' c' al cl tw (.int .i64 0) (.int .i64 0) w5 :=
          ⟨0, k5, rfl, Nat.zero_le _, rfl, HR.out.below hb5, hrl, HD.out.below hb5, HT.out.below hb5, HW.out.below hb5, HB.out.trans (hb5.mono HB.out.size)⟩
        have HST := Lib.hid hst
        obtain ⟨nl, hnl⟩ : ∃ nl, (rootsL p).length = nl := ⟨_, rfl⟩
        rw [hnl] at hrl1 ⊢
        have HNL := Lib.hid hnl
        have hnl256 : nl ≤ 256 := by rw [← hnl]; exact rootsTo_len p 256
        clear hrl hb5 hst HR HD HT HW HB hnl
        go_wp2_with fail
        go_loopw [11, 12] (fun k x wr => R2 w' dp gt gw a cap ts p a' c' al cl tw k x wr) (fun _ x _ => 256 - (intOf x).toNat)
        case atStart => exact HST.out
        case round =>
          clear HST
          obtain ⟨x, k6, rfl, hx, rfl, hr, hrl, hd, ht, htw, hB⟩ := hrel
          obtain ⟨kk, hkk⟩ : ∃ kk, (rootsTo p x).length = kk := ⟨_, rfl⟩
          rw [hkk]
          have hkk2 : kk ≤ 256 := by rw [← hkk]; exact rootsTo_len p x
          have HR := Lib.hid hr
          have HRL := Lib.hid hrl
          have HD := Lib.hid hd
          have HT := Lib.hid ht
          have HW := Lib.hid htw
          have HB := Lib.hid hB
          have HKK := Lib.hid hkk
          clear hr hrl hd ht htw hB hkk
          have hvx : x < 256 → ((ofN x).v : Int) = (x : Int) := fun h => by show ((x % 256 : Nat) : Int) = _; omega
          have HVX := Lib.hid hvx
          clear hvx
          by_cases hlt : x < 256
          · have y1 := HT.out.at' x hlt
            by_cases h0 : PM.ev p (ofN x) = 0
            · rw [decide_eq_true h0] at y1
              have hkl : kk < nl := by have := rootsTo_lt p x hlt h0; have := HNL.out; have := HKK.out; omega
              have hele : PM.el (rootsL p) kk = ofN x := by have := rootsTo_el p x 256 hlt (Nat.le_refl _) h0; rwa [HKK.out] at this
              obtain ⟨lb, lo, rfl, hlc⟩ := HRL.out.el kk (by rw [HNL.out]; exact hkl)
              rw [hele, HVX.out hlt] at hlc
              have y2 := HW.out.at' x hlt
              have HS := Lib.hid (rootsTo_yes p x hlt h0)
              have H0 := Lib.hid h0
              have HLT := Lib.hid hlt
              clear h0 hele
              by_cases htx : tw x = true
              · rw [htx] at y2
                have hdv := (HDB.out x hlt htx).2
                have HDV := Lib.hid hdv
                clear hdv htx
                go_wp2_with fail
                (with_reducible refine (derive_any a' c' p wr HR.out HP.out.len).mono ?_)
                rintro e w6 ⟨⟨r, a2, c2, rfl, hr6, hp6, hco⟩, hb6⟩
                have hev := eval_any a2 c2 r (ofN x) w6 hr6
                rw [dvl_list hco, HDV.out, HVX.out HLT.out, show (((0 : PM.G).v : Nat) : Int) = 0 from rfl] at hev
                have HEV := Lib.hid hev
                have hb6' := hb6
                have HB6 := Lib.hid hb6
                clear hev hb6 hb6' hr6 hp6 hco
                go_wp2_with fail
                (with_reducible refine HEV.out.mono ?_)
                rintro e w7 ⟨rfl, hb7⟩
                have hb67 : Below wr.heap.size wr w7 := HB6.out.trans (hb7.mono HB6.out.size)
                have hst : R2 w' dp gt gw a cap ts p a' c' (some ⟨lb, lo, none⟩) cl tw (.int .i64 ((kk : Int) + 1)) (.int .i64 ((x : Int) + 1)) w7 :=
                  ⟨x + 1, k6, by go_num, by omega, by rw [HS.out, List.length_append, HKK.out]; go_num, HR.out.below hb67, HRL.out.below hb67, HD.out.below hb67, HT.out.below hb67, HW.out.below hb67, HB.out.trans (hb67.mono HB.out.size)⟩
                have HST := Lib.hid hst
                clear hst hb67 hb7
                go_wp2_with fail
                go_roundw
                case rel => exact HST.out
                case measure => simp [intOf]; omega
              · have htf : tw x = false := by cases h : tw x with
                  | true => exact absurd h htx
                  | false => rfl
                rw [htf] at y2
                have hst : R2 w' dp gt gw a cap ts p a' c' (some ⟨lb, lo, none⟩) cl tw (.int .i64 ((kk : Int) + 1)) (.int .i64 ((x : Int) + 1)) wr :=
                  ⟨x + 1, k6, by go_num, by omega, by rw [HS.out, List.length_append, HKK.out]; go_num, HR.out, HRL.out, HD.out, HT.out, HW.out, HB.out⟩
                have HST := Lib.hid hst
                clear hst htf htx
                go_wp2_with fail
                go_roundw
                case rel => exact HST.out
                case measure => simp [intOf]; omega
            · rw [decide_eq_false h0] at y1
              have hst : R2 w' dp gt gw a cap ts p a' c' al cl tw (.int .i64 (kk : Int)) (.int .i64 ((x : Int) + 1)) wr :=
                ⟨x + 1, k6, by go_num, by omega, by rw [rootsTo_no p x hlt h0, HKK.out], HR.out, HRL.out, HD.out, HT.out, HW.out, HB.out⟩
              have HST := Lib.hid hst
              clear hst h0
              go_wp2_with fail
              go_roundw
              case rel => exact HST.out
              case measure => simp [intOf]; omega
          · obtain rfl : x = 256 := by omega
            have hkn : kk = nl := by rw [← HKK.out, ← HNL.out]; rfl
            subst hkn
            go_wp2_with fail
            refine (poly_any wr dp a cap ts k6 12 (by omega) HD.out).mono ?_
            rintro e w6 ⟨q, aq, cq, k7, rfl, hlq, hcq, hrq, _, _, hg6⟩
            have hrq1 := hrq.room
            have hrq2 := hrq.most
            have HRQ := Lib.hid hrq
            have HPQ := Lib.hid (show Pol q from ⟨hcq, by omega⟩)
            have HB6 := Lib.hid (below_grown HB.out hg6 HB.out.size (fun k e => by cases e; omega))
            clear hrq hcq hg6 HB HD HT HW HR HRL
            go_wp2_with fail
            (with_reducible refine (awake_yes w6).mono ?_)
            rintro e w7 ⟨rfl, hb7⟩
            have HRQ7 := Lib.hid (HRQ.out.below hb7)
            have HB7 := Lib.hid (HB6.out.trans (hb7.mono HB6.out.size))
            clear hb7 HRQ HB6
            by_cases hq0 : 0 < q.length
            · have hz : ((q.length : Int) == 0) = false := beq_false_of_ne (by omega)
              have hfw := roots_few HPQ.out hq0
              obtain ⟨nq, hnq⟩ : ∃ nq, (rootsL q).length = nq := ⟨_, rfl⟩
              have hry := roots_yes aq cq q w7 HRQ7.out HPQ.out hq0
              rw [hnq] at hfw
              have HRY := Lib.hid hry
              have HNQ := Lib.hid hnq
              clear hry hnq
              go_wp2_with fail
              (with_reducible refine HRY.out.mono ?_)
              rintro e w8 ⟨⟨a9, c9, rfl, _⟩, hb8⟩
              rw [HNQ.out]
              go_wp2_with fail
              go_ret
              exact ⟨rfl, HB7.out.trans (hb8.mono HB7.out.size)⟩
            · have hz : ((q.length : Int) == 0) = true := by rw [show q.length = 0 by omega]; rfl
              go_wp2_with fail
              go_ret
              exact ⟨rfl, HB7.out⟩
      | succ j =>
        have e1 : ((j + 1 : Nat) : Int) = (j : Int) + 1 := rfl
        go_wp2_with fail
        (with_reducible refine (next256 wr dp a cap ts k5 HD.out).mono ?_)
        rintro e w5 ⟨r, k6, hr, rfl, hd5, hg5⟩
        have ht5 := HT.out.grown hg5 (by omega)
        have hw5 := HW.out.grown hg5 (by omega)
        have x1 := ht5.at' r hr
        have x2 := hw5.at' r hr
        have f1 := ht5.free r hr
        have f2 := hw5.free r hr
        obtain ⟨t, htt⟩ : ∃ t, decide (PM.ev p (ofN r) = 0) = t := ⟨_, rfl⟩
        rw [htt] at x1
        obtain ⟨w6, hw6⟩ : ∃ w6, (w5.setCell ⟨gw, r, none⟩ (.bool t)).setCell ⟨gt, r, none⟩ (.bool true) = w6 := ⟨_, rfl⟩
        have hvr : ((ofN r).v : Int) = (r : Int) := by show ((r % 256 : Nat) : Int) = _; omega
        have hs5 := hg5.size
        have hgl := HT.out.lt
        have hgl2 := HW.out.lt
        have hr6 : Row w6 a' p c' := by
          rw [← hw6]
          exact ((HR.out.grown hg5 (fun b o e => by have := HNE.out b o e; intro h; cases h; exact this rfl)).setBool x2 _).setBool (b := t) ((cell_other _ (show gt ≠ gw by omega)).trans x1) _
        have ht6 : BRow w6 gt (fun k => if k = r then true else decide (PM.ev p (ofN k) = 0)) := by rw [← hw6]; exact (ht5.other (show gt ≠ gw by omega) _).set r hr true
        have htw6 : BRow w6 gw (fun k => if k = r then t else tw k) := by rw [← hw6]; exact (hw5.set r hr t).other (show gw ≠ gt by omega) _
        have hd6 : Dice w6 dp a cap ts k6 := by
          rw [← hw6]
          exact (hd5.set (show dp < gw by omega) (fun b o e h => by have := HF.out b o e h; omega) _).set (show dp < gt by omega) (fun b o e h => by have := HF.out b o e h; omega) _
        have hb6 : Below w'.heap.size w' w6 := by
          rw [← hw6]
          exact ((below_grown HB.out hg5 HB.out.size (fun k e => by cases e; omega)).setCell (p := ⟨gw, r, none⟩) (show w'.heap.size ≤ gw by omega) _).setCell (p := ⟨gt, r, none⟩) (show w'.heap.size ≤ gt by omega) _
        have hlit := row_two w6 (ofN r) PM.G.one 5
        have hm := mul_fitF _ _ c' 2 p [ofN r, PM.G.one] _ (hr6.alloc (.cells #[.int .u8 ((ofN r).v : Int), .int .u8 (PM.G.one.v : Int)] 5)) hlit HP.out (pol_lin _) hp0 (by decide : 0 < 2) (by show p.length + 2 ≤ 256; omega)
        rw [hvr, one_int, show [ofN r, PM.G.one].length = 2 from rfl] at hm
        have HM := Lib.hid hm
        have HT6 := Lib.hid ht6
        have HW6 := Lib.hid htw6
        have hdl6 := hd6.lt
        have HD6 := Lib.hid hd6
        have HB6 := Lib.hid hb6
        have HDS := Lib.hid htt
        clear hlit hm ht6 htw6 hd6 hb6 hr6 htt HT HW HD HB HR
        go_wp2_with fail
        (with_reducible refine HM.out.mono ?_)
        rintro e w7 ⟨⟨p', a2, c2, rfl, hr7, hp7, hco, hfr⟩, hb7⟩
        have hp7l : p'.length ≤ p.length + 1 := PM.can_len hp7.can (fun k hk => by rw [hco]; exact PM.conv_van _ _ _ _ (PM.el_van p) (PM.el_van [ofN r, PM.G.one]) k hk)
        have hp70 : 0 < p'.length := by
          rcases Nat.eq_zero_or_pos p'.length with h | h
          · exfalso
            have hz := (PM.conv_top (PM.el p) (PM.el [ofN r, PM.G.one]) (p.length - 1) 1 (by rw [show p.length - 1 + 1 = p.length by omega]; exact PM.el_van p) (PM.el_van [ofN r, PM.G.one])).1
            rw [← hco, PM.el_ge (by omega), show PM.el [ofN r, PM.G.one] 1 = PM.G.one from rfl, PM.G.mul_one] at hz
            exact HP.out.can hp0 hz.symm
          · exact h
        rw [World.size_alloc] at hb7
        have hb67 : Below w6.heap.size w6 w7 := ((Below.refl w6.heap.size w6).alloc (Nat.le_refl _) _).trans (by have := hb7.mono (show w6.heap.size ≤ w6.heap.size + 1 by omega); exact this)
        have hdb7 := dbl_step hr hco HDB.out
        rw [HDS.out] at hdb7
        have hst : R1 w' dp gt gw a cap ts (.slice a2 p'.length c2) (.int .i64 (j : Int)) w7 :=
          ⟨j, k6, p', a2, c2, _, rfl, rfl, hr7, fun b o e => by have := hfr b o e; rw [World.size_alloc] at this; omega, hp7, hp70, by omega, HD6.out.below hb67,
            (HT6.out.below hb67).as (fun k hk => by
              rw [there_step hco]
              by_cases e : k = r
              · rw [if_pos e, if_pos (by rw [e])]
              · rw [if_neg e, if_neg (fun h => e (ofN_inj hk hr h))]), HW6.out.below hb67, hdb7, HB6.out.trans (hb67.mono HB6.out.size)⟩
        have HST := Lib.hid hst
        clear hst hr7 hp7 hco hfr hb7 hdb7 hb67 HT6 HW6 HD6 HB6
        go_wp2_with fail
        go_roundw
        case rel => exact HST.out
        case measure => simp [intOf]
  · have hLt : decide ((ts.length : Int) ≤ 400) = false := decide_eq_false (by omega)
    go_enter Try.func7, Try.ntmps7
    go_wp2_with fail
    (with_reducible refine (light_any a ts.length cap w).mono ?_)
    rintro e w' ⟨rfl, rfl⟩
    rw [hLt]
    go_wp2_with fail
    (with_reducible refine (awake_yes w').mono ?_)
    rintro e w1 ⟨rfl, hb⟩
    go_wp2
    go_ret
    exact ⟨rfl, hb⟩
end Go.Proofs.Ytfbogjibofeckaa.P
