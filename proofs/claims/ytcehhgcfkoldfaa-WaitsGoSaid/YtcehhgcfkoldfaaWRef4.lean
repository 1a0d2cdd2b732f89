/-
  Contracts of the reference: With, Right.
-/
import Derived.Test.YtcehhgcfkoldfaaWRef2
namespace Go.Proofs.Ytcehhgcfkoldfaa.Waits
open Go.ChangeShapes Go.WideShapes Go.ChangeAt Go.RowKit Go.Shelf Go.Lib
open Go.Proofs.Ytcehhgcfkoldfaa.Goods
open Go.Proofs.Ytcehhgcfkoldfaa.Queue (Wt ltB wv QRow)

theorem Brief.snoc {l : List Ln} {x : Ln} (hl : Brief l) (h : l.length < 1000) (hx : x.k.size ≤ 1000000) : Brief (l ++ [x]) := ⟨by simp; omega, fun y hy => by
  rcases List.mem_append.1 hy with hy | hy
  · exact hl.2 y hy
  · rw [List.mem_singleton.1 hy]; exact hx⟩
set_option maxRecDepth 100000 in
set_option maxHeartbeats 2000000 in
theorem refWith_any {v : Value} {l : List Ln} {w : World} (h : LRow w v l) (hl : Brief l) (h1 : l.length < 1000) (x : Ln) (hx : x.k.size ≤ 1000000) : Calls Try.prog 19 #[v, lv x] w (LinesR (makeL (l ++ [x])) w) := by
  have HMK := Lib.hid (fun (u : Value) W (hr : LRow W u (l ++ [x])) => refMake_any hr (hl.snoc h1 hx))
  have hb1 := al w (.cells #[.string x.k, .int .i64 x.w.c, .int .i64 x.w.s, .int .i64 x.w.o] 26)
  have hbx := Box.made w (lcs x) 26
  obtain ⟨W1, hW1⟩ : ∃ W, w.alloc (.cells #[.string x.k, .int .i64 x.w.c, .int .i64 x.w.s, .int .i64 x.w.o] 26) = W := ⟨_, rfl⟩
  have hs1 : W1.heap.size = w.heap.size + 1 := by rw [← hW1]; simp
  have HB1 : Hid (Below w.heap.size w W1) := Lib.hid (hW1 ▸ hb1)
  have HX1 : Hid (Box w.heap.size (lcs x) W1) := Lib.hid (hW1 ▸ hbx)
  have he := OwnL.empty W1 (Nat.le_refl _)
  have ha := al W1 (.cells #[] 26)
  have HA := Lib.hid ha
  have HL := Lib.hid ((h.below HB1.out).below ha)
  obtain ⟨n1, hn1⟩ : ∃ n, W1.heap.size = n := ⟨_, rfl⟩
  rw [hs1] at he hn1
  have HE := Lib.hid he
  have HN1 : Hid (W1.heap.size = w.heap.size + 1) := Lib.hid hs1
  obtain ⟨a, cap, rfl⟩ := h.slice
  have hlen := hl.1
  unfold lv
  unfold lcs at HX1
  clear h hl hb1 hbx he ha hn1 hs1
  go_enter Try.func19, Try.ntmps19
  go_upto_region 1 with (fail)
  clear hW1
  have hs1 := HN1.out
  go_wp2_with (at_builtin; refine wpList_append_L rfl _ _ rfl (w.heap.size + 1) _ [] rfl HE.out _ l rfl HL.out (by simp) (by omega) (by have := HA.out.size; have := HN1.out; omega) ?_)
  intro v1 W3 ho1 hb1 _
  obtain ⟨a1, m1, c1, rfl⟩ : ∃ a n c, v1 = .slice a n c := (by obtain ⟨a', c', e⟩ := ho1.row.slice; exact ⟨a', _, c', e⟩)
  have hb3 : Below W1.heap.size W1 W3 := by
    have h3 := HA.out
    rw [HN1.out] at h3 ⊢
    exact h3.trans hb1
  have HB3 := Lib.hid hb3
  obtain ⟨x0, x1, x2, x3⟩ := box4 (HX1.out.below hb3)
  have hsx := (HX1.out.below hb3).1
  try rw [List.nil_append] at ho1
  have HO1 := Lib.hid (ho1.below (al W3 (.cells #[.string x.k, .int .i64 x.w.c, .int .i64 x.w.s, .int .i64 x.w.o] 26)))
  have HB4 := Lib.hid (below_trans hb3 (al W3 (.cells #[.string x.k, .int .i64 x.w.c, .int .i64 x.w.s, .int .i64 x.w.o] 26)))
  have hs4 : w.heap.size + 1 ≤ (W3.alloc (.cells #[.string x.k, .int .i64 x.w.c, .int .i64 x.w.s, .int .i64 x.w.o] 26)).heap.size := by have h4 := HB4.out.size; have h5 := HN1.out; omega
  clear ho1 hb1 hb3 hs1
  go_wp2_with (at_builtin; refine wpList_append_L rfl _ _ rfl (w.heap.size + 1) _ l rfl HO1.out _ [x] rfl (LRow.one W3 x) (by omega) (by simp) hs4 ?_)
  intro v2 W5 ho2 hb2 _
  obtain ⟨a2, m2, c2, rfl⟩ : ∃ a n c, v2 = .slice a n c := (by obtain ⟨a', c', e⟩ := ho2.row.slice; exact ⟨a', _, c', e⟩)
  have hb5 : Below W1.heap.size W1 W5 := by
    have h4 := HB4.out
    rw [HN1.out] at h4 ⊢
    exact h4.trans hb2
  have HB5 := Lib.hid (below_trans HB1.out hb5)
  have HM := Lib.hid (HMK.out _ _ ho2.row)
  clear ho2 hb2 hb5 x0 x1 x2 x3 hsx
  go_wp2_with fail
  (with_reducible refine HM.out.mono ?_)
  rintro e w6 ⟨v6, rfl, hr6, hz6⟩
  obtain ⟨a6, m6, c6, rfl⟩ : ∃ a n c, v6 = .slice a n c := (by obtain ⟨a', c', e⟩ := hr6.slice; exact ⟨a', _, c', e⟩)
  have HR6 := Lib.hid hr6
  have HZ6 := Lib.hid (below_trans HB5.out hz6)
  clear hr6 hz6
  go_wp2_with fail
  go_ret
  exact ⟨_, rfl, HR6.out, HZ6.out⟩

set_option maxRecDepth 100000 in
set_option maxHeartbeats 1000000 in
theorem refRight_any {v : Value} {l : List Ln} {w : World} (h : LRow w v l) (hl : Brief l) : Calls Try.prog 12 #[v] w (BoolB (Waits.rightB l) w) := by
  have HM := Lib.hid (Waits.refAll_any h hl)
  have HR := Lib.hid (fun W (hb : Below w.heap.size w W) => refMake_any (h.below hb) hl)
  have HS := Lib.hid (fun (u : Value) W (hu : LRow W u (makeL l)) (hb : Below w.heap.size w W) => Waits.Same_any hu (h.below hb))
  rw [right_make]
  obtain ⟨a, cap, rfl⟩ := h.slice
  clear h
  generalize Waits.allB l = m at *
  generalize decide (makeL l = l) = n at *
  cases m with
  | false =>
    go_enter Try.func12, Try.ntmps12
    go_wp2_with fail
    (with_reducible refine HM.out.mono ?_)
    rintro e w' ⟨rfl, hz⟩
    have HZ := Lib.hid hz
    clear hz
    go_wp2_with fail
    go_ret
    exact ⟨rfl, HZ.out⟩
  | true =>
    go_enter Try.func12, Try.ntmps12
    go_wp2_with fail
    (with_reducible refine HM.out.mono ?_)
    rintro e w' ⟨rfl, hz⟩
    have HZ := Lib.hid hz
    clear hz
    go_wp2_with fail
    (with_reducible refine (HR.out _ HZ.out).mono ?_)
    rintro e w2 ⟨v2, rfl, hr2, hz⟩
    obtain ⟨a2, m2, c2, rfl⟩ : ∃ a n c, v2 = .slice a n c := (by obtain ⟨a', c', e⟩ := hr2.slice; exact ⟨a', _, c', e⟩)
    have HZ2 := Lib.hid (below_trans HZ.out hz)
    have HS2 := Lib.hid (HS.out _ _ hr2 HZ2.out)
    clear hz hr2
    go_wp2_with fail
    (with_reducible refine HS2.out.mono ?_)
    rintro e w3 ⟨rfl, hz⟩
    have HZ3 := Lib.hid (below_trans HZ2.out hz)
    clear hz
    go_wp2_with fail
    go_ret
    exact ⟨rfl, HZ3.out⟩
end Go.Proofs.Ytcehhgcfkoldfaa.Waits
