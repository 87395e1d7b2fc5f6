/- append of one byte: the slice that comes lies where the old one lay, or in a block of its own. -/
import Derived.Test.YtfbogjibofeckaaPThru2
namespace Go.Proofs.Ytfbogjibofeckaa.P
open Go Go.RowKit Go.Shelf

theorem app_where {W W' : World} {B b : Nat} {v v' : Value} {zs : List PM.G} {X : Int} {ty : TypeId} (hown : Own W B v zs) (hc : W.cell? ⟨b, 0, none⟩ = some (.int .u8 X)) (hl : zs.length < 1000000)
    (hr : (Builtin.append_ #[22, 22] ty #[v, .slice (some ⟨b, 0, none⟩) 1 1]).run Try.prog W = .ok v' W') : v'.ownBlock = v.ownBlock ∨ v'.ownBlock = some W.heap.size := by
  obtain ⟨i0, hi, hz0, hz1, hz2⟩ := info_parts info_byte
  have hnews : ∀ j u, [Value.int .u8 X][j]? = some u → W.cell? ((⟨b, 0, none⟩ : Addr).add j) = some u := by
    intro j u hj
    match j, hj with
    | 0, hj => simp at hj; subst hj; simpa [Addr.add] using hc
  have hown' := hown
  rcases hown.2 with ⟨rfl, _⟩ | ⟨g, cap, cur, rfl, hbg, hg, hnc, hcm, hcs, htake⟩
  · have h := Go.run_append_nil (P := Try.prog) W 22 ty 5 i0 (.int .u8 0) Try.underlying22 hi hz0 ⟨b, 0, none⟩ 1 1 [.int .u8 X] (by rw [hz1]; rfl) hnews (by decide) (by decide) (by rw [hz2]; decide)
    rw [h] at hr
    injection hr with h1 h2
    subst h1
    exact .inr rfl
  · by_cases hroom : zs.length + 1 ≤ cap
    · have h := Go.run_append_room (P := Try.prog) W 22 ty 5 i0 Try.underlying22 hi g zs.length cap cur hg ⟨b, 0, none⟩ 1 1 [.int .u8 X] (by rw [hz1]; rfl) hnews (by intro u hu; simp at hu; subst hu; rfl) hroom (by rw [hz1, hcs]; simp; omega)
      rw [h] at hr
      injection hr with h1 h2
      subst h1
      exact .inl rfl
    · have holds : ∀ j u, (zs.map gv)[j]? = some u → W.cell? ((⟨g, 0, none⟩ : Addr).add j) = some u := World.ownsRow.cells hown' (g := g) rfl
      have h := Go.run_append_grow (P := Try.prog) W 22 ty 5 i0 (.int .u8 0) Try.underlying22 hi hz0 ⟨g, 0, none⟩ zs.length cap (zs.map gv) (by rw [hz1]; simp) holds ⟨b, 0, none⟩ 1 1 [.int .u8 X] (by rw [hz1]; rfl) hnews (by omega) (by omega) (growslice_fits (by omega) (by rw [hz2]; omega))
      rw [h] at hr
      injection hr with h1 h2
      subst h1
      exact .inr rfl

/-- **append(s, x)**, s owned: where the result lies. -/
theorem wpList_app1F {W : World} {ops : Array Oper} {rest : List Oper} {o : Oper} {a : Act} {Q : Exit → Act → World → Prop} (hgd : o.guard = none) (s x : Operand)
    (ho : o.op = .call { callee := .builtin .append, args := #[s, x], argTypes := #[22, 22] }) {B : Nat} {v : Value} {zs : List PM.G} {X : Int} (c : PM.G) (hs : a.eval s = v) (hown : Own W B v zs)
    {b : Nat} (hx : a.eval x = .slice (some ⟨b, 0, none⟩) 1 1) (hc : W.cell? ⟨b, 0, none⟩ = some (.int .u8 X)) (hX : X = (c.v : Int)) (hl : zs.length < 1000000) (hbase : B ≤ W.heap.size)
    (h : ∀ a' cap' W', Own W' B (.slice a' (zs ++ [c]).length cap') (zs ++ [c]) → W.grownBy W' v.ownBlock → Below B W W' → (∀ b' o', a' = some ⟨b', o', none⟩ → v.ownBlock = some b' ∨ b' = W.heap.size) → wpList Try.prog ops Q rest (a.put o.dst (.slice a' (zs.length + 1) cap')) W') : wpList Try.prog ops Q (o :: rest) a W := by
  subst hX
  obtain ⟨i0, hi, hz0, hz1, hz2⟩ := info_parts info_byte
  refine wpList_plain hgd fun K hK => ?_
  have hnews : ∀ j u, [gv c][j]? = some u → W.cell? ((⟨b, 0, none⟩ : Addr).add j) = some u := by
    intro j u hj
    match j, hj with
    | 0, hj => simp at hj; subst hj; simpa [Addr.add, gv] using hc
  obtain ⟨v', W', hr, h2, h3, h4⟩ := run_append_own (P := Try.prog) W B 22 o.type 5 i0 (.int .u8 0) 1 1 Try.underlying22 hi hz0 hz1 hz2 rfl (by decide) v zs.length (zs.map gv) hown ⟨b, 0, none⟩ 1 1 [gv c] rfl hnews (by intro u hu; simp at hu; subst hu; rfl) (by unfold maxLen; omega) (by omega) hbase
  have hw := app_where hown hc hl hr
  have ho2 : Own W' B v' (zs ++ [c]) := by unfold Own; simpa [gv] using h2
  have hB2 : Below B W W' := (Below.refl B W).grown h3 hbase (fun k e => (World.ownsRow.lt hown k e).1)
  obtain ⟨a', cap', rfl, _⟩ := ho2.row
  unfold Oper.wp execOp
  simp only [ho, resolve, invoke, builtin, Sem.run_bind, Sem.run_pure, Result.andThen_ok, List.map_toArray, List.map_cons, List.map_nil, hs, hx, hr]
  have := hK _ _ (h a' cap' W' ho2 h3 hB2 (fun b' o' e => by
    subst e
    rcases hw with h5 | h5
    · exact .inl (by rw [← h5]; rfl)
    · have : some b' = some W.heap.size := h5
      cases this
      exact .inr rfl))
  rw [show (zs ++ [c]).length = zs.length + 1 by rw [List.length_append]; rfl]
  exact this

set_option maxRecDepth 100000 in
set_option maxHeartbeats 400000 in
theorem through_size (a b : Option Addr) (ca cb : Nat) (xs ys : List PM.G) (w : World) (ha : Row w a xs ca) (hb : Row w b ys cb) (hlen : xs.length ≠ ys.length ∨ 255 < xs.length) :
    Calls Try.prog 16 #[.slice a xs.length ca, .slice b ys.length cb] w fun e W => e = .returned (.tuple #[.slice none 0 0, .int .i64 7]) ∧ Below w.heap.size w W := by
  have hra := ha.room
  have hma := ha.most
  have hrb := hb.room
  have hmb := hb.most
  clear ha hb
  by_cases h1 : xs.length = ys.length
  · have hz : ((xs.length : Int) != (ys.length : Int)) = false := by rw [h1]; simp
    have hd : decide ((255 : Int) < (xs.length : Int)) = true := decide_eq_true (by omega)
    have H1 := Lib.hid h1
    clear h1 hlen
    go_enter Try.func16, Try.ntmps16
    go_wp2_with fail
    exact bodyPost_ret (v := .tuple #[.slice none 0 0, .int .i64 7]) (by simp [results, Try.results16, go_sem]) rfl ⟨rfl, Below.refl _ _⟩
  · have hz : ((xs.length : Int) != (ys.length : Int)) = true := by simp; omega
    go_enter Try.func16, Try.ntmps16
    go_wp2_with fail
    exact bodyPost_ret (v := .tuple #[.slice none 0 0, .int .i64 7]) (by simp [results, Try.results16, go_sem]) rfl ⟨rfl, Below.refl _ _⟩
set_option maxRecDepth 100000 in
set_option maxHeartbeats 400000 in
theorem rthrough_size (a b : Option Addr) (ca cb : Nat) (xs ys : List PM.G) (w : World) (ha : Row w a xs ca) (hb : Row w b ys cb) (hlen : xs.length ≠ ys.length ∨ 255 < xs.length) :
    Calls Try.prog 17 #[.slice a xs.length ca, .slice b ys.length cb] w fun e W => e = .returned (.tuple #[.slice none 0 0, .int .i64 7]) ∧ Below w.heap.size w W := by
  have hra := ha.room
  have hma := ha.most
  have hrb := hb.room
  have hmb := hb.most
  clear ha hb
  by_cases h1 : xs.length = ys.length
  · have hz : ((xs.length : Int) != (ys.length : Int)) = false := by rw [h1]; simp
    have hd : decide ((255 : Int) < (xs.length : Int)) = true := decide_eq_true (by omega)
    have H1 := Lib.hid h1
    clear h1 hlen
    go_enter Try.func17, Try.ntmps17
    go_wp2_with fail
    exact bodyPost_ret (v := .tuple #[.slice none 0 0, .int .i64 7]) (by simp [results, Try.results17, go_sem]) rfl ⟨rfl, Below.refl _ _⟩
  · have hz : ((xs.length : Int) != (ys.length : Int)) = true := by simp; omega
    go_enter Try.func17, Try.ntmps17
    go_wp2_with fail
    exact bodyPost_ret (v := .tuple #[.slice none 0 0, .int .i64 7]) (by simp [results, Try.results17, go_sem]) rfl ⟨rfl, Below.refl _ _⟩
end Go.Proofs.Ytfbogjibofeckaa.P
