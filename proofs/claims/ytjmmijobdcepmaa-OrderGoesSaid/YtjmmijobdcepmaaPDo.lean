/-
  Contracts of package pay: the generic function that asks first, over any function value; what it is handed.
-/
import Derived.Test.YtjmmijobdcepmaaPBase
namespace Go.Proofs.Ytjmmijobdcepmaa.Pay
open Go.ChangeShapes Go.WideShapes Go.ChangeAt Go.RowKit

theorem makes (fn : Fn) (first cap : Array Value) (w : World) : (Instr.makeFunc fn first cap).run Try.prog w = .ok (.func fn first cap) w := rfl
/-- A function value's function is entered. -/
def Enters (n : Nat) : Prop := ∀ args w, (callFunc n args).run Try.prog w = .ok (.enter n args) w
/-- Money, whether it lapsed, and an error are returned. -/
def lp (p : Py) (b : Bool) : Value := .agg #[.int .i64 p.a, .int .i64 p.c, .int .i64 p.u, .int .i64 p.s, .bool b]
def LapsE (p : Py) (b : Bool) (z : Int) (w : World) (e : Ending) (w' : World) : Prop := e = .returned (.tuple #[lp p b, .int .i64 z]) ∧ Below w.heap.size w w'
theorem below_five {W w : World} {b : Nat} (u0 u1 u2 u3 u4 : Value) (h : Below W.heap.size W w) (hb : W.heap.size ≤ b) :
    Below W.heap.size W (((((w.setCell ⟨b, 0, none⟩ u0).setCell ⟨b, 1, none⟩ u1).setCell ⟨b, 2, none⟩ u2).setCell ⟨b, 3, none⟩ u3).setCell ⟨b, 4, none⟩ u4) :=
  (below_four u0 u1 u2 u3 h hb).setCell (p := ⟨b, 4, none⟩) hb u4
theorem past (w : World) (o : Obj) {b j : Nat} (h : b < w.heap.size) : (w.alloc o).cell? ⟨b, j, none⟩ = w.cell? ⟨b, j, none⟩ := (al w o).cell (p := ⟨b, j, none⟩) h
/-- A block of this many cells for the result behind one for the money. -/
theorem two_boxes (w : World) (p : Py) (vs : List Value) (T T' : TypeId) : Box w.heap.size (pcs p) ((w.alloc (.cells (pcs p).toArray T)).alloc (.cells vs.toArray T')) ∧ Box (w.heap.size + 1) vs ((w.alloc (.cells (pcs p).toArray T)).alloc (.cells vs.toArray T')) := by
  refine ⟨(Box.made w (pcs p) T).below (al _ _), ?_⟩
  have := Box.made (w.alloc (.cells (pcs p).toArray T)) vs T'
  simpa only [World.size_alloc] using this

set_option maxRecDepth 100000 in
set_option maxHeartbeats 1000000 in
theorem do_any (p x : Py) (z : Int) (n : Nat) (he : Enters n) (cs : Array Value) {w : World} (hp : rightB p = true → ∀ W, Below w.heap.size w W → Calls Try.prog n (#[pv p] ++ cs) W (PayE x z W)) :
    Calls Try.prog 51 #[pv p, .func (.func n) #[] cs] w (PayE (if rightB p = true then x else noP) (if rightB p = true then z else 1) w) := by
  have hR := Right_any p
  obtain ⟨hx1, hx2⟩ := two_boxes w p [.int .i64 0, .int .i64 0, .int .i64 0, .int .i64 0] 25 25
  have hbb := two_al w (.cells (pcs p).toArray 25) (.cells #[.int .i64 0, .int .i64 0, .int .i64 0, .int .i64 0] 25)
  unfold Enters at he
  unfold pcs at *
  obtain ⟨W0, hW0⟩ : ∃ W, (w.alloc (.cells #[.int .i64 p.a, .int .i64 p.c, .int .i64 p.u, .int .i64 p.s] 25)).alloc (.cells #[.int .i64 0, .int .i64 0, .int .i64 0, .int .i64 0] 25) = W := ⟨_, rfl⟩
  have HX1 : Hid (Box w.heap.size [.int .i64 p.a, .int .i64 p.c, .int .i64 p.u, .int .i64 p.s] W0) := Lib.hid (hW0 ▸ hx1)
  have HX2 : Hid (Box (w.heap.size + 1) [.int .i64 0, .int .i64 0, .int .i64 0, .int .i64 0] W0) := Lib.hid (hW0 ▸ hx2)
  have HB0 : Hid (Below w.heap.size w W0) := Lib.hid (hW0 ▸ hbb)
  clear hx1 hx2 hbb
  cases hr : rightB p with
  | false =>
    rw [if_neg (by simp), if_neg (by simp)]
    rw [hr] at hR
    have HR := Lib.hid hR
    unfold pv at HR
    clear hR hp he hr
    unfold pv
    go_enter Try.func51, Try.ntmps51
    go_upto_region 1 with (fail)
    clear hW0
    obtain ⟨k0, k1, k2, k3⟩ := HX1.out.c4
    have hs1 := HX1.out.1
    go_wp2_with fail
    (with_reducible refine (HR.out _).mono ?_)
    rintro e w1 ⟨rfl, hz⟩
    have hb2 := below_trans HB0.out hz
    obtain ⟨y0, y1, y2, y3⟩ := (HX2.out.below hz).c4
    obtain ⟨z0, z1, z2, z3⟩ := (HX2.out.below hz).z4
    have hsz := (HX2.out.below hz).1
    have h4 := below_four (b := w.heap.size + 1) (.int .i64 0) (.int .i64 0) (.int .i64 0) (.int .i64 0) hb2 (by omega)
    have HE := Lib.hid (h4.alloc h4.size (.cells #[.int .i64 0, .int .i64 0, .int .i64 0, .int .i64 0] 25))
    clear hz hb2 h4 k0 k1 k2 k3 hs1
    go_wp2_with fail
    exact bodyPost_ret (by simp [results, Try.results51, go_sem, pv, noP, past, hsz, y0, y1, y2, y3]) rfl ⟨rfl, HE.out⟩
  | true =>
    rw [if_pos rfl, if_pos rfl]
    rw [hr] at hR
    have HR := Lib.hid hR
    have HP := Lib.hid (hp hr)
    unfold pv at HR HP
    clear hR hp hr
    unfold pv
    go_enter Try.func51, Try.ntmps51
    go_upto_region 1 with (fail)
    clear hW0
    obtain ⟨k0, k1, k2, k3⟩ := HX1.out.c4
    have hs1 := HX1.out.1
    go_wp2_with fail
    (with_reducible refine (HR.out _).mono ?_)
    rintro e w1 ⟨rfl, hz⟩
    have HB1 := Lib.hid (below_trans HB0.out hz)
    obtain ⟨l0, l1, l2, l3⟩ := (HX1.out.below hz).c4
    have hs2 := (HX1.out.below hz).1
    have HX3 := Lib.hid (HX2.out.below hz)
    clear hz k0 k1 k2 k3 hs1
    go_wp2_with fail
    (with_reducible refine (HP.out _ HB1.out).mono ?_)
    rintro e w2 ⟨rfl, hz⟩
    have hb2 := below_trans HB1.out hz
    obtain ⟨y0, y1, y2, y3⟩ := (HX3.out.below hz).c4
    obtain ⟨z0, z1, z2, z3⟩ := (HX3.out.below hz).z4
    have hsz := (HX3.out.below hz).1
    have HE := Lib.hid (below_four (b := w.heap.size + 1) (.int .i64 x.a) (.int .i64 x.c) (.int .i64 x.u) (.int .i64 x.s) hb2 (by omega))
    clear hz hb2 l0 l1 l2 l3 hs2
    unfold pv
    go_wp2_with fail
    exact bodyPost_ret (by simp [results, Try.results51, go_sem, pv, y0, y1, y2, y3]) rfl ⟨rfl, HE.out⟩

end Go.Proofs.Ytjmmijobdcepmaa.Pay
