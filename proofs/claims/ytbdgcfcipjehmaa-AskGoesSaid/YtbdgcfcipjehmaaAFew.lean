/-
  Asking: the law's own right and alive; asking compared; asking and acts among a law's arguments, opened.
-/
import Derived.Test.YtbdgcfcipjehmaaAAns
import Derived.Deep.Slices
namespace Go.Proofs.Ytbdgcfcipjehmaa.Ask
open Go.ChangeShapes Go.WideShapes Go.ChangeAt Go.RowKit Go.Deep

set_option maxRecDepth 100000 in
set_option maxHeartbeats 1000000 in
theorem right_any (p : As) (w : World) : Calls Try.prog 9 #[av p] w (BoolB (rightB p) w) := by
  have HP := Lib.hid (rightB_t (a := p))
  have HF := Lib.hid (rightB_f (a := p))
  have HB := Lib.hid (al w (.cells #[.int .i64 p.s, .int .i64 p.u] 23))
  generalize rightB p = m at HP HF ⊢
  unfold av
  unfold RightA at HP HF
  generalize p.u = u at HP HF HB ⊢
  generalize p.s = s at HP HF HB ⊢
  by_cases h0 : s = 0
  · subst h0
    by_cases h1 : u = 0
    · subst h1
      obtain rfl := HP.out.2 (.inl ⟨rfl, rfl⟩)
      clear HP HF
      go_enter Try.func9, Try.ntmps9
      go_wp2
      go_ret
      exact ⟨rfl, HB.out⟩
    · obtain rfl := HF.out.2 (by omega)
      have h2 : (u == 0) = false := by simpa using h1
      clear HP HF h1
      go_enter Try.func9, Try.ntmps9
      go_wp2
      go_ret
      exact ⟨rfl, HB.out⟩
  · have hs : (s == 0) = false := by simpa using h0
    by_cases h1 : s ≥ 1
    · by_cases h3 : s ≤ 3
      · by_cases h5 : u ≥ 0
        · by_cases h6 : u ≤ 1099511627776
          · obtain rfl := HP.out.2 (by omega)
            clear HP HF h0
            go_enter Try.func9, Try.ntmps9
            go_wp2
            go_ret
            exact ⟨rfl, HB.out⟩
          · obtain rfl := HF.out.2 (by omega)
            clear HP HF h0
            go_enter Try.func9, Try.ntmps9
            go_wp2
            go_ret
            exact ⟨ret_bool (by first | rfl | (simp; done) | (simp; omega)), HB.out⟩
        · obtain rfl := HF.out.2 (by omega)
          clear HP HF h0
          go_enter Try.func9, Try.ntmps9
          go_wp2
          go_ret
          exact ⟨rfl, HB.out⟩
      · obtain rfl := HF.out.2 (by omega)
        clear HP HF h0
        go_enter Try.func9, Try.ntmps9
        go_wp2
        go_ret
        exact ⟨rfl, HB.out⟩
    · obtain rfl := HF.out.2 (by omega)
      clear HP HF h0
      go_enter Try.func9, Try.ntmps9
      go_wp2
      go_ret
      exact ⟨rfl, HB.out⟩

theorem equal_ask (x y : As) (w : World) : (Op.equalIn 10000 23 (av x) (av y)).run Try.prog w = .ok (decide (x = y)) w := by
  have h : decide (x = y) = (x.s == y.s && x.u == y.u) := by
    by_cases e : x = y
    · subst e; simp
    · rw [decide_eq_false e]
      symm
      rw [Bool.eq_false_iff]
      intro hc
      simp only [Bool.and_eq_true, beq_iff_eq] at hc
      exact e (As.same hc.1 hc.2)
  rw [h]
  unfold av
  simp [go_sem]
  (repeat' split) <;> simp_all
theorem neq_ask (x y : As) (w : World) : (binOp .neq 23 (.agg #[.int .i64 x.s, .int .i64 x.u]) (.agg #[.int .i64 y.s, .int .i64 y.u])).run Try.prog w = .ok (.bool (!decide (x = y))) w := by
  have h := equal_ask x y w
  unfold av at *
  rw [run_neq_struct, h]
  rfl
theorem eql_ask (x y : As) (w : World) : (binOp .eql 23 (.agg #[.int .i64 x.s, .int .i64 x.u]) (.agg #[.int .i64 y.s, .int .i64 y.u])).run Try.prog w = .ok (.bool (decide (x = y))) w := by
  have h := equal_ask x y w
  unfold av at *
  rw [run_eql_struct, h]
  rfl
theorem neq_yes {x y : As} (h : x = y) (w : World) : (binOp .neq 23 (.agg #[.int .i64 x.s, .int .i64 x.u]) (.agg #[.int .i64 y.s, .int .i64 y.u])).run Try.prog w = .ok (.bool false) w := by
  have := neq_ask x y w
  rwa [decide_eq_true h] at this
theorem eql_yes {x y : As} (h : x = y) (w : World) : (binOp .eql 23 (.agg #[.int .i64 x.s, .int .i64 x.u]) (.agg #[.int .i64 y.s, .int .i64 y.u])).run Try.prog w = .ok (.bool true) w := by
  have := eql_ask x y w
  rwa [decide_eq_true h] at this

theorem beg_one : begO noA 5 = ⟨1, 5⟩ ∧ begE noA 5 = 0 := ⟨by decide, by decide⟩
theorem ans_one : ansO ⟨1, 5⟩ true 3 = ⟨2, 5⟩ ∧ ansE ⟨1, 5⟩ 3 = 0 := ⟨by decide, by decide⟩
theorem may_one : mayB ⟨2, 5⟩ 4 = true ∧ mayB ⟨2, 5⟩ 5 = false := ⟨by decide, by decide⟩

set_option maxRecDepth 100000 in
set_option maxHeartbeats 1000000 in
theorem alive_any (w : World) : Calls Try.prog 11 #[] w (BoolB true w) := by
  have h1 := Begin_any noA 5
  rw [beg_one.1, beg_one.2] at h1
  have h2 := Answer_any ⟨1, 5⟩ true 3
  rw [ans_one.1, ans_one.2] at h2
  have h3 := May_any ⟨2, 5⟩ 4
  rw [may_one.1] at h3
  have h4 := May_any ⟨2, 5⟩ 5
  rw [may_one.2] at h4
  unfold av noA at *
  simp only at h1 h2 h3 h4
  have H1 := Lib.hid h1
  have H2 := Lib.hid h2
  have H3 := Lib.hid h3
  have H4 := Lib.hid h4
  clear h1 h2 h3 h4
  go_enter Try.func11, Try.ntmps11
  go_wp2_with fail
  (with_reducible refine (H1.out _).mono ?_)
  rintro e v1 ⟨rfl, hz⟩
  have hx := Box.made v1 [.int .i64 1, .int .i64 5] 23
  have hz2 := below_trans hz (al v1 (.cells #[.int .i64 1, .int .i64 5] 23))
  obtain ⟨w1, hw⟩ : ∃ W, v1.alloc (.cells #[.int .i64 1, .int .i64 5] 23) = W := ⟨_, rfl⟩
  have HX : Hid (Box v1.heap.size [.int .i64 1, .int .i64 5] w1) := Lib.hid (hw ▸ hx)
  have HB : Hid (Below w.heap.size w w1) := Lib.hid (hw ▸ hz2)
  have HV : Hid (w.heap.size ≤ v1.heap.size) := Lib.hid hz.size
  clear hz hx hz2
  unfold av
  go_upto_region 2 with (fail)
  clear hw
  obtain ⟨k0, k1⟩ := HX.out.c2
  have ks := HX.out.1
  go_wp2_with fail
  (with_reducible refine (H2.out _).mono ?_)
  rintro e w2 ⟨rfl, hz⟩
  clear k0 k1 ks
  have hx2 := HX.out.below hz
  have HB2 := Lib.hid (below_two (b := v1.heap.size) (.int .i64 2) (.int .i64 5) (below_trans HB.out hz) HV.out)
  have hx3 : Box v1.heap.size [.int .i64 2, .int .i64 5] ((w2.setCell ⟨v1.heap.size, 0, none⟩ (.int .i64 2)).setCell ⟨v1.heap.size, 1, none⟩ (.int .i64 5)) := by
    obtain ⟨y0, y1⟩ := hx2.c2
    obtain ⟨z0, z1⟩ := hx2.z2
    refine ⟨by simpa using hx2.1, fun j v hj => ?_⟩
    match j, hj with
    | 0, hj => cases hj; exact ⟨by simp [go_sem, y0], by simp [go_sem, z0]⟩
    | 1, hj => cases hj; exact ⟨by simp [go_sem, y1], by simp [go_sem, z1]⟩
    | j + 2, hj => cases hj
  obtain ⟨y0, y1⟩ := hx2.c2
  obtain ⟨z0, z1⟩ := hx2.z2
  have hs := hx2.1
  obtain ⟨w3, hw3⟩ : ∃ W, (w2.setCell ⟨v1.heap.size, 0, none⟩ (.int .i64 2)).setCell ⟨v1.heap.size, 1, none⟩ (.int .i64 5) = W := ⟨_, rfl⟩
  rw [hw3] at hx3
  have HX3 := Lib.hid hx3
  replace HB2 : Hid (Below w.heap.size w w3) := Lib.hid (hw3 ▸ HB2.out)
  clear hz hx2 hx3 HX HB HV
  unfold av
  go_upto_region 3 with (fail)
  clear hw3 y0 y1 z0 z1 hs
  obtain ⟨k0, k1⟩ := HX3.out.c2
  have ks := HX3.out.1
  go_wp2_with fail
  (with_reducible refine (H3.out _).mono ?_)
  rintro e w4 ⟨rfl, hz⟩
  clear k0 k1 ks
  replace HX3 := Lib.hid (HX3.out.below hz)
  replace HB2 := Lib.hid (below_trans HB2.out hz)
  clear hz
  obtain ⟨k0, k1⟩ := HX3.out.c2
  have ks := HX3.out.1
  go_wp2_with fail
  (with_reducible refine (H4.out _).mono ?_)
  rintro e w5 ⟨rfl, hz⟩
  have HE := Lib.hid (below_trans HB2.out hz)
  clear hz
  go_wp2_with fail
  go_ret
  exact ⟨rfl, HE.out⟩

section
variable {H : Type} {enc : TypeId × Value → H} {W : World} {base : Nat} {spare : Nat → Bool} {held : Bool}

theorem ask_of {fuel : Nat} {c0 c1 : Value} {x : DataW H × List MemPlace} (h : DataW.trod enc Try.prog W base spare held fuel 23 [c0, c1] = some x) :
    ∃ y : As, c0 = .int .i64 y.s ∧ c1 = .int .i64 y.u := by
  obtain ⟨xs, n, _, _, _, hx, hf⟩ := DataW.trod_struct Try.underlying23 h
  have k1 : Try.prog.cellsOf 3 = 1 := by kernel_rfl
  match xs, hx with
  | [x0, x1], _ =>
    have g0 : DataW.trod enc Try.prog W base spare held n 3 (([c0, c1].drop 0).take (Try.prog.cellsOf 3)) = some x0 := hf 0 _ rfl
    have g1 : DataW.trod enc Try.prog W base spare held n 3 (([c0, c1].drop 1).take (Try.prog.cellsOf 3)) = some x1 := hf 1 _ rfl
    rw [k1] at g0 g1
    obtain ⟨a, e0, _, _⟩ := DataW.trod_int Try.underlying3 g0
    obtain ⟨b, e1, _, _⟩ := DataW.trod_int Try.underlying3 g1
    exact ⟨⟨a, b⟩, by simpa using e0, by simpa using e1⟩

theorem open_ask {v : Value} {fuel : Nat} {x : DataW H × List MemPlace} {r : Reach} {b0 : Nat} (hv : Value.okWide Try.prog W r b0 23 v) (h : DataW.trod enc Try.prog W base spare held fuel 23 v.cells.toList = some x) : ∃ y : As, v = av y := by
  obtain ⟨cs, rfl, hcs⟩ := okWide_struct Try.underlying23 hv
  have h3 : Try.prog.cellsOf 23 = 2 := by kernel_rfl
  rw [h3] at hcs
  match cs, hcs with
  | ⟨[c0, c1]⟩, _ =>
    obtain ⟨y, rfl, rfl⟩ := ask_of (c0 := c0) (c1 := c1) h
    exact ⟨y, rfl⟩
end
end Go.Proofs.Ytbdgcfcipjehmaa.Ask
