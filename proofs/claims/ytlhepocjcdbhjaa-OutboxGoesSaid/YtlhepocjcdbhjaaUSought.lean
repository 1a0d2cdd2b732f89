/-
  One that is sought in a row by any function value (generic function): its place, it, and an error. Rows of which it is told whether one of a kind and order is in them (isTold).
-/
import Derived.Test.YtlhepocjcdbhjaaUBase
import Derived.Deep.CutRange
namespace Go.Proofs.Ytlhepocjcdbhjaa.Outbox
open Go.ChangeShapes Go.WideShapes Go.ChangeAt Go.RowKit Go.Shelf Go.Lib
open Go.Proofs.Ytlhepocjcdbhjaa.Queue (Box al dr below_trans ret_bool BoolB)

theorem any_take {p : Ot → Bool} {l : List Ot} {k : Nat} (h : k < l.length) : (l.take (k + 1)).any p = ((l.take k).any p || p l[k]) := by
  rw [List.take_succ_eq_append_getElem h, List.any_append]
  simp
/-- The first of which it holds, with its place; or that there is none. -/
def Hit (p : Ot → Bool) (l : List Ot) (i : Int) (x : Ot) (z : Int) : Prop :=
  (∃ (k : Nat) (h : k < l.length), i = k ∧ x = l[k] ∧ p l[k] = true ∧ (l.take k).any p = false ∧ z = 0) ∨ (i = 0 ∧ x = noT ∧ l.any p = false ∧ z = 8)
def SoughtE (p : Ot → Bool) (l : List Ot) (w : World) (e : Ending) (w' : World) : Prop := ∃ (i : Int) (x : Ot) (z : Int), e = .returned (.tuple #[.int .i64 i, uv x, .int .i64 z]) ∧ Hit p l i x z ∧ Below w.heap.size w w'
def SeekR (p : Ot → Bool) (l : List Ot) (k : Nat) (w W : World) : Prop := (l.take k).any p = false ∧ Below w.heap.size w W ∧ Box w.heap.size (ocs noT) W
theorem below_four {W w : World} {b : Nat} (u0 u1 u2 u3 : Value) (h : Below W.heap.size W w) (hb : W.heap.size ≤ b) :
    Below W.heap.size W ((((w.setCell ⟨b, 0, none⟩ u0).setCell ⟨b, 1, none⟩ u1).setCell ⟨b, 2, none⟩ u2).setCell ⟨b, 3, none⟩ u3) :=
  (((h.setCell (p := ⟨b, 0, none⟩) hb u0).setCell (p := ⟨b, 1, none⟩) hb u1).setCell (p := ⟨b, 2, none⟩) hb u2).setCell (p := ⟨b, 3, none⟩) hb u3
theorem below_two {W w : World} {b : Nat} (u0 u1 : Value) (h : Below W.heap.size W w) (hb : W.heap.size ≤ b) :
    Below W.heap.size W ((w.setCell ⟨b, 0, none⟩ u0).setCell ⟨b, 1, none⟩ u1) := (h.setCell (p := ⟨b, 0, none⟩) hb u0).setCell (p := ⟨b, 1, none⟩) hb u1

set_option maxRecDepth 100000 in
set_option maxHeartbeats 2000000 in
theorem sought_any {v : Value} {l : List Ot} {w : World} (n : Nat) (he : Enters n) (cs : Array Value) (p : Ot → Bool) (hp : ∀ x ∈ l, ∀ W, Below w.heap.size w W → Calls Try.prog n (#[uv x] ++ cs) W (BoolB (p x) W)) (h : URow w v l) (hl : l.length ≤ 1000) : Calls Try.prog 26 #[v, .func (.func n) #[] cs] w (SoughtE p l w) := by
  obtain ⟨a, cap, rfl⟩ := h.slice
  have H := Lib.hid h
  have HP := Lib.hid hp
  have HL := Lib.hid hl
  have hx0 := Box.made w (ocs noT) 30
  have hb0 := al w (.cells #[.int .i64 0, .int .i64 0, .int .i64 0, .int .i64 0] 30)
  obtain ⟨W0, hW0⟩ : ∃ W, w.alloc (.cells #[.int .i64 0, .int .i64 0, .int .i64 0, .int .i64 0] 30) = W := ⟨_, rfl⟩
  have HX0 : Hid (Box w.heap.size (ocs noT) W0) := Lib.hid (hW0 ▸ hx0)
  have HB0 : Hid (Below w.heap.size w W0) := Lib.hid (hW0 ▸ hb0)
  unfold Enters at he
  clear h hp hl hx0 hb0
  go_enter Try.func26, Try.ntmps26
  go_upto_region 1 with (fail)
  clear hW0
  go_wp2
  go_loopw [7, 8, 12] (fun _ _ i wr => ∃ k : Nat, k ≤ l.length ∧ i = .int .i64 k ∧ SeekR p l k w wr) (fun _ _ i _ => l.length - (Go.RowKit.intOf i).toNat)
  case atStart => exact ⟨0, Nat.zero_le _, rfl, by simp, HB0.out, HX0.out⟩
  case round =>
    obtain ⟨k, hk, rfl, hr⟩ := hrel
    have HR := Lib.hid hr
    clear hr
    by_cases hlt : k < l.length
    · obtain ⟨b, off, rfl, hlc, hcap, hb, k0, k1, k2, k3⟩ := (H.out.below HR.out.2.1).at hlt
      have hba := al wr (.cells #[.int .i64 l[k].y, .int .i64 l[k].k, .int .i64 l[k].o, .int .i64 l[k].d] 30)
      have hn := HP.out l[k] (List.getElem_mem hlt) (wr.alloc (.cells #[.int .i64 l[k].y, .int .i64 l[k].k, .int .i64 l[k].o, .int .i64 l[k].d] 30)) (below_trans HR.out.2.1 hba)
      have hx1 := Box.made wr (ocs l[k]) 30
      have HAT := Lib.hid (any_take (p := p) hlt)
      have HIT : Hid (p l[k] = true → Hit p l k l[k] 0) := Lib.hid fun h => .inl ⟨k, hlt, rfl, rfl, h, HR.out.1, rfl⟩
      unfold uv at hn
      unfold ocs at hx1
      generalize l[k] = x at *
      obtain ⟨W1, hW1⟩ : ∃ W, wr.alloc (.cells #[.int .i64 x.y, .int .i64 x.k, .int .i64 x.o, .int .i64 x.d] 30) = W := ⟨_, rfl⟩
      have HB1 : Hid (Below wr.heap.size wr W1) := Lib.hid (hW1 ▸ hba)
      have HX1 : Hid (Box wr.heap.size (ocs x) W1) := Lib.hid (hW1 ▸ hx1)
      rw [hW1] at hn
      obtain ⟨d0, d1, d2, d3⟩ := box4 HX1.out
      have hs1 := HX1.out.1
      clear hba hx1
      obtain ⟨m, hm⟩ : ∃ m, p x = m := ⟨_, rfl⟩
      rw [hm] at hn HAT HIT
      have HN := Lib.hid hn
      clear hn hm
      go_upto_region 4 with (fail)
      clear hW1
      go_wp2_with fail
      (with_reducible refine HN.out.mono ?_)
      rintro e w' ⟨rfl, hz⟩
      have HB2 := Lib.hid (below_trans HR.out.2.1 (below_trans HB1.out hz))
      have HX2 := Lib.hid (HR.out.2.2.below (below_trans HB1.out hz))
      obtain ⟨d0', d1', d2', d3'⟩ := box4 (HX1.out.below hz)
      have hs2 := (HX1.out.below hz).1
      clear hz d0 d1 d2 d3 hs1
      cases m with
      | true =>
        obtain ⟨y0, y1, y2, y3⟩ := box4 HX2.out
        obtain ⟨z0, z1, z2, z3⟩ := frz4 HX2.out
        have hsz := HX2.out.1
        have HE := Lib.hid (below_four (b := w.heap.size) (.int .i64 x.y) (.int .i64 x.k) (.int .i64 x.o) (.int .i64 x.d) (below_trans HB2.out (dr w')) (Nat.le_refl _))
        go_wp2_with fail
        go_region
        go_wp2_with fail
        exact bodyPost_ret (by simp [results, Try.results26, go_sem, uv, y0, y1, y2, y3]) rfl ⟨_, x, _, rfl, HIT.out (by first | trivial | rfl), HE.out⟩
      | false =>
        go_wp2_with fail
        go_roundw
        case rel => exact ⟨k + 1, by omega, by go_num, by rw [HAT.out, HR.out.1]; rfl, HB2.out, HX2.out⟩
        case measure => simp [Go.RowKit.intOf]; omega
    · obtain rfl : k = l.length := by omega
      have HA : Hid (Hit p l 0 noT 8) := Lib.hid (.inr ⟨rfl, rfl, by have := HR.out.1; rwa [List.take_length] at this, rfl⟩)
      have hba := al wr (.cells #[.int .i64 0, .int .i64 0, .int .i64 0, .int .i64 0] 30)
      have hx1 := Box.made wr (ocs noT) 30
      obtain ⟨W1, hW1⟩ : ∃ W, wr.alloc (.cells #[.int .i64 0, .int .i64 0, .int .i64 0, .int .i64 0] 30) = W := ⟨_, rfl⟩
      have HB1 : Hid (Below w.heap.size w W1) := Lib.hid (hW1 ▸ below_trans HR.out.2.1 hba)
      have HX1 : Hid (Box wr.heap.size (ocs noT) W1) := Lib.hid (hW1 ▸ hx1)
      have HX2 : Hid (Box w.heap.size (ocs noT) W1) := Lib.hid (hW1 ▸ HR.out.2.2.below hba)
      clear hba hx1
      obtain ⟨d0, d1, d2, d3⟩ := box4 HX1.out
      have hs1 := HX1.out.1
      obtain ⟨y0, y1, y2, y3⟩ := box4 HX2.out
      obtain ⟨z0, z1, z2, z3⟩ := frz4 HX2.out
      have hsz := HX2.out.1
      have HE := Lib.hid (below_four (b := w.heap.size) (.int .i64 0) (.int .i64 0) (.int .i64 0) (.int .i64 0) (below_trans HB1.out (dr W1)) (Nat.le_refl _))
      go_upto_region 8 with (fail)
      clear hW1
      go_region
      go_wp2_with fail
      exact bodyPost_ret (by simp [results, Try.results26, go_sem, uv, y0, y1, y2, y3]) rfl ⟨_, noT, _, rfl, HA.out, HE.out⟩

/-- Is one of that kind and order told? -/
theorem sought_is {v : Value} {l : List Ot} {w : World} (k o : Int) {g g' : Nat} (hg : Box g [.int .i64 k] w) (hg' : Box g' [.int .i64 o] w) (h : URow w v l) (hl : l.length ≤ 1000) : Calls Try.prog 26 #[v, .func (.func 34) #[] #[.pointer (some ⟨g, 0, none⟩), .pointer (some ⟨g', 0, none⟩)]] w (SoughtE (ofB k o) l w) :=
  sought_any 34 (enters_of Try.func34 (by kernel_rfl) rfl) _ (ofB k o) (fun x _ _ hW => isOf1_any k o x (hg.below hW) (hg'.below hW)) h hl
theorem sought_key {v : Value} {l : List Ot} {w : World} (y : Int) {g : Nat} (hg : Box g [.int .i64 y] w) (h : URow w v l) (hl : l.length ≤ 1000) : Calls Try.prog 26 #[v, .func (.func 27) #[] #[.pointer (some ⟨g, 0, none⟩)]] w (SoughtE (keyB y) l w) :=
  sought_any 27 (enters_of Try.func27 (by kernel_rfl) rfl) _ (keyB y) (fun x _ _ hW => done1_any y x (hg.below hW)) h hl
theorem hit_any {p : Ot → Bool} {l : List Ot} {i : Int} {x : Ot} {z : Int} (h : Hit p l i x z) : (z == 0) = l.any p := by
  rcases h with ⟨k, hk, _, _, h2, _, rfl⟩ | ⟨_, _, h2, rfl⟩
  · rw [List.any_eq_true.2 ⟨_, List.getElem_mem hk, h2⟩]; rfl
  · rw [h2]; rfl

set_option maxRecDepth 100000 in
set_option maxHeartbeats 1000000 in
theorem isTold_any {v : Value} {l : List Ot} {w : World} (h : URow w v l) (hl : l.length ≤ 1000) (k o : Int) : Calls Try.prog 24 #[v, .int .i64 k, .int .i64 o] w (BoolB (l.any (ofB k o)) w) := by
  obtain ⟨a, cap, rfl⟩ := h.slice
  have H := Lib.hid h
  have HI := Lib.hid (isOf_any k o w)
  clear h
  go_enter Try.func24, Try.ntmps24
  go_wp2_with fail
  (with_reducible refine HI.out.mono ?_)
  rintro e w1 ⟨g, g', rfl, hg, hg', hz⟩
  have HS := Lib.hid (sought_is k o hg hg' (H.out.below hz) hl)
  have HZ := Lib.hid hz
  clear hg hg' hz
  go_wp2_with fail
  (with_reducible refine HS.out.mono ?_)
  rintro e w2 ⟨i, x, z, rfl, hh, hz⟩
  have HH := Lib.hid (hit_any hh)
  have HB := Lib.hid (below_trans (below_trans HZ.out hz) (al w2 (.cells #[.int .i64 x.y, .int .i64 x.k, .int .i64 x.o, .int .i64 x.d] 30)))
  clear hh hz HS
  unfold uv
  go_wp2_with fail
  go_ret
  exact ⟨ret_bool HH.out, HB.out⟩
end Go.Proofs.Ytlhepocjcdbhjaa.Outbox
