/-
  Contracts of the reference: Same, Get.
-/
import Derived.Test.YtihfdeihpdkjcaaKHand
namespace Go.Proofs.Ytihfdeihpdkjcaa.Goods.Stk
open Go.ChangeShapes Go.WideShapes Go.ChangeAt Go.RowKit Go.Shelf Go.Lib

theorem _root_.Go.Proofs.Ytihfdeihpdkjcaa.Goods.Box.six {b : Nat} {c0 c1 c2 c3 c4 c5 : Value} {w : World} (h : Box b [c0, c1, c2, c3, c4, c5] w) (u0 u1 u2 u3 u4 u5 : Value) :
    Box b [u0, u1, u2, u3, u4, u5] ((((((w.setCell ⟨b, 0, none⟩ u0).setCell ⟨b, 1, none⟩ u1).setCell ⟨b, 2, none⟩ u2).setCell ⟨b, 3, none⟩ u3).setCell ⟨b, 4, none⟩ u4).setCell ⟨b, 5, none⟩ u5) :=
  (((((h.put 0 u0 (by simp)).put 1 u1 (by simp)).put 2 u2 (by simp)).put 3 u3 (by simp)).put 4 u4 (by simp)).put 5 u5 (by simp)
theorem _root_.Go.Proofs.Ytihfdeihpdkjcaa.Goods.Box.c6 {b : Nat} {c0 c1 c2 c3 c4 c5 : Value} {w : World} (h : Box b [c0, c1, c2, c3, c4, c5] w) : w.cell? ⟨b, 0, none⟩ = some c0 ∧ w.cell? ⟨b, 1, none⟩ = some c1 ∧ w.cell? ⟨b, 2, none⟩ = some c2 ∧ w.cell? ⟨b, 3, none⟩ = some c3 ∧ w.cell? ⟨b, 4, none⟩ = some c4 ∧ w.cell? ⟨b, 5, none⟩ = some c5 :=
  ⟨(h.2 0 _ rfl).1, (h.2 1 _ rfl).1, (h.2 2 _ rfl).1, (h.2 3 _ rfl).1, (h.2 4 _ rfl).1, (h.2 5 _ rfl).1⟩
theorem _root_.Go.Proofs.Ytihfdeihpdkjcaa.Goods.Box.z6 {b : Nat} {c0 c1 c2 c3 c4 c5 : Value} {w : World} (h : Box b [c0, c1, c2, c3, c4, c5] w) : w.frozen? ⟨b, 0, none⟩ = false ∧ w.frozen? ⟨b, 1, none⟩ = false ∧ w.frozen? ⟨b, 2, none⟩ = false ∧ w.frozen? ⟨b, 3, none⟩ = false ∧ w.frozen? ⟨b, 4, none⟩ = false ∧ w.frozen? ⟨b, 5, none⟩ = false :=
  ⟨(h.2 0 _ rfl).2, (h.2 1 _ rfl).2, (h.2 2 _ rfl).2, (h.2 3 _ rfl).2, (h.2 4 _ rfl).2, (h.2 5 _ rfl).2⟩
theorem below_six {W w : World} {b : Nat} (u0 u1 u2 u3 u4 u5 : Value) (h : Below W.heap.size W w) (hb : W.heap.size ≤ b) :
    Below W.heap.size W ((((((w.setCell ⟨b, 0, none⟩ u0).setCell ⟨b, 1, none⟩ u1).setCell ⟨b, 2, none⟩ u2).setCell ⟨b, 3, none⟩ u3).setCell ⟨b, 4, none⟩ u4).setCell ⟨b, 5, none⟩ u5) :=
  (((((h.setCell hb u0).setCell hb u1).setCell hb u2).setCell hb u3).setCell hb u4).setCell hb u5

def SameR (l m : List Rw) (k : Nat) (w W : World) : Prop := (∀ j (h : j < l.length) (h' : j < m.length), j < k → l[j] = m[j]) ∧ Below w.heap.size w W
theorem same_end {l m : List Rw} (hl : l.length = m.length) (h : ∀ j (h : j < l.length) (h' : j < m.length), l[j] = m[j]) : l = m := List.ext_getElem hl fun j h1 h2 => h j h1 h2
set_option maxRecDepth 100000 in
set_option maxHeartbeats 4000000 in
theorem Same_any {u v : Value} {l m : List Rw} {w : World} (hu : SRow w u l) (hv : SRow w v m) : Calls Try.prog 13 #[u, v] w (BoolB (decide (l = m)) w) := by
  obtain ⟨a, cap, rfl⟩ := hu.slice
  obtain ⟨a', cap', rfl⟩ := hv.slice
  have HU := Lib.hid hu
  have HV := Lib.hid hv
  clear hu hv
  by_cases he : l.length = m.length
  · have HE := Lib.hid he
    go_enter Try.func13, Try.ntmps13
    rw [← he]
    clear he
    go_wp2
    go_loopw [5, 13] (fun _ i wr => ∃ k : Nat, k ≤ l.length ∧ i = .int .i64 k ∧ SameR l m k w wr) (fun _ i _ => l.length - (intOf i).toNat)
    case atStart => exact ⟨0, Nat.zero_le _, rfl, fun j _ _ h => by omega, Below.refl _ _⟩
    case round =>
      obtain ⟨k, hk, rfl, hr⟩ := hrel
      have HR := Lib.hid hr
      clear hr
      by_cases hlt : k < l.length
      · have hlt' : k < m.length := by have := HE.out; omega
        obtain ⟨b, off, rfl, hlc, hcap, hb, k0, k1, k2, k3, k4, k5⟩ := (HU.out.below HR.out.2).at hlt
        obtain ⟨b', off', rfl, hlc', hcap', hb', m0, m1, m2, m3, m4, m5⟩ := (HV.out.below HR.out.2).at hlt'
        have HS : Hid (l[k] = m[k] → SameR l m (k + 1) w wr) := Lib.hid fun e => ⟨fun j h1 h2 h3 => by
          by_cases c : j = k
          · subst c; exact e
          · exact HR.out.1 j h1 h2 (by omega), HR.out.2⟩
        have HN : Hid (l[k] ≠ m[k] → decide (l = m) = false) := Lib.hid fun e => decide_eq_false fun h => e (by subst h; rfl)
        have heq := fun W => neq_row l[k] m[k] W
        generalize l[k] = x at *
        generalize m[k] = y at *
        have hlm : (k : Int) < l.length := by omega
        by_cases hm : x = y
        · have HS2 := Lib.hid (HS.out hm)
          rw [decide_eq_true hm] at heq
          clear HS HN hm
          go_upto_region 6 with (fail)
          go_region
          go_wp2
          go_roundw
          case rel => exact ⟨k + 1, by omega, by go_num, HS2.out.1, below_trans HS2.out.2 (dr wr)⟩
          case measure => simp [intOf]; omega
        · have HN2 := Lib.hid (HN.out hm)
          rw [decide_eq_false hm] at heq
          clear HS HN hm
          go_upto_region 6 with (fail)
          go_region
          go_wp2
          go_ret
          exact ⟨ret_bool HN2.out.symm, below_trans HR.out.2 (dr wr)⟩
      · obtain rfl : k = l.length := by omega
        have HY : Hid (decide (l = m) = true) := Lib.hid (decide_eq_true (same_end HE.out fun j h1 h2 => HR.out.1 j h1 h2 (by omega)))
        go_wp2
        go_ret
        exact ⟨ret_bool HY.out.symm, HR.out.2⟩
  · have HN : Hid (decide (l = m) = false) := Lib.hid (decide_eq_false fun h => he (by rw [h]))
    have h1 : ((l.length : Int) != m.length) = true := by simpa using (by omega : ¬ ((l.length : Int) = m.length))
    clear he
    go_enter Try.func13, Try.ntmps13
    go_wp2
    go_ret
    exact ⟨ret_bool HN.out.symm, Below.refl _ _⟩

/-- The row of none. -/
def noR : Rw := ⟨⟨#[]⟩, 0, 0, 0, 0, 0⟩
def RowE (x : Rw) (w : World) (e : Ending) (w' : World) : Prop := e = .returned (rv x) ∧ Below w.heap.size w w'
theorem getL_take {l : List Rw} {k : Nat} (h : k < l.length) (s : ByteArray) (hn : getL s (l.take k) = none) : getL s (l.take (k + 1)) = (if l[k].s = s then some l[k] else none) := by
  rw [List.take_succ_eq_append_getElem h]
  generalize l.take k = m at hn
  induction m with
  | nil => simp [getL]
  | cons a m ih =>
    rw [List.cons_append, getL]
    rw [getL] at hn
    split at hn
    · cases hn
    · rename_i e; rw [if_neg e, ih hn]
theorem getL_some_take {l : List Rw} {k : Nat} {s : ByteArray} {x : Rw} (h : getL s (l.take k) = some x) : getL s l = some x := by
  rw [← List.take_append_drop k l]
  generalize l.take k = m at h
  generalize l.drop k = r
  induction m with
  | nil => cases h
  | cons a m ih =>
    rw [List.cons_append, getL]
    rw [getL] at h
    split at h
    · rename_i e; rw [if_pos e]; exact h
    · rename_i e; rw [if_neg e]; exact ih h
set_option maxRecDepth 100000 in
set_option maxHeartbeats 4000000 in
theorem refGet_any {v : Value} {l : List Rw} {w : World} (h : SRow w v l) (s : ByteArray) : Calls Try.prog 17 #[v, .string s] w (RowE ((getL s l).getD noR) w) := by
  obtain ⟨a, cap, rfl⟩ := h.slice
  have H := Lib.hid h
  have hx0 := Box.made w [.string ⟨#[]⟩, .int .i64 0, .int .i64 0, .int .i64 0, .int .i64 0, .int .i64 0] 25
  have hb0 := al w (.cells #[.string ⟨#[]⟩, .int .i64 0, .int .i64 0, .int .i64 0, .int .i64 0, .int .i64 0] 25)
  obtain ⟨W0, hW0⟩ : ∃ W, w.alloc (.cells #[.string ⟨#[]⟩, .int .i64 0, .int .i64 0, .int .i64 0, .int .i64 0, .int .i64 0] 25) = W := ⟨_, rfl⟩
  rw [hW0] at hx0 hb0
  have HX0 := Lib.hid hx0
  have HB0 := Lib.hid hb0
  clear h hx0 hb0
  go_enter Try.func17, Try.ntmps17
  go_wp2

  clear hW0
  go_loopw [6, 9] (fun _ i wr => ∃ k : Nat, k ≤ l.length ∧ i = .int .i64 k ∧ getL s (l.take k) = none ∧ Below W0.heap.size W0 wr) (fun _ i _ => l.length - (intOf i).toNat)
  case atStart => exact ⟨0, Nat.zero_le _, rfl, rfl, Below.refl _ _⟩
  case round =>
    obtain ⟨k, hk, rfl, hgn, hr⟩ := hrel
    have HR := Lib.hid hr
    have HGN := Lib.hid hgn
    have HBW := Lib.hid (below_trans HB0.out hr)
    have HXR := Lib.hid (HX0.out.below hr)
    clear hr hgn
    by_cases hlt : k < l.length
    · obtain ⟨b, off, rfl, hlc, hcap, hb, k0, k1, k2, k3, k4, k5⟩ := (H.out.below HBW.out).at hlt
      have HGT := Lib.hid (getL_take hlt s HGN.out)
      generalize l[k] = x at *
      have hba := al wr (.cells #[.string x.s, .int .i64 x.n, .int .i64 x.f, .int .i64 x.h, .int .i64 x.p, .int .i64 x.t] 25)
      have HA := Lib.hid (below_trans HR.out hba)
      have HXA := Lib.hid (HXR.out.below hba)
      have HWA := Lib.hid (below_trans HBW.out hba)
      clear hba
      by_cases hm : x.s = s
      · have h1 := bytes_yes hm
        have HRES : Hid ((getL s l).getD noR = x) := Lib.hid (by rw [getL_some_take (k := k + 1) (x := x) (by rw [HGT.out, if_pos hm])]; rfl)
        obtain ⟨y0, y1, y2, y3, y4, y5⟩ := HXA.out.c6
        obtain ⟨z0, z1, z2, z3, z4, z5⟩ := HXA.out.z6
        have hsz := HXA.out.1
        have HE := Lib.hid (below_six (b := w.heap.size) (.string x.s) (.int .i64 x.n) (.int .i64 x.f) (.int .i64 x.h) (.int .i64 x.p) (.int .i64 x.t) HWA.out (Nat.le_refl _))
        clear hm HGT
        go_wp2
        exact bodyPost_ret (by simp [results, Try.results17, go_sem, rv, y0, y1, y2, y3, y4, y5]) rfl ⟨congrArg (fun y => Ending.returned (rv y)) HRES.out.symm, HE.out⟩
      · have h1 := bytes_no hm
        have HG2 : Hid (getL s (l.take (k + 1)) = none) := Lib.hid (by rw [HGT.out, if_neg hm])
        clear hm HGT
        go_wp2
        go_roundw
        case rel => exact ⟨k + 1, by omega, by go_num, HG2.out, HA.out⟩
        case measure => simp [intOf]; omega
    · obtain rfl : k = l.length := by omega
      have HRES : Hid ((getL s l).getD noR = noR) := Lib.hid (by have := HGN.out; rw [List.take_length] at this; rw [this]; rfl)
      obtain ⟨y0, y1, y2, y3, y4, y5⟩ := HXR.out.c6
      obtain ⟨z0, z1, z2, z3, z4, z5⟩ := HXR.out.z6
      have hsz := HXR.out.1
      have HE := Lib.hid (below_six (b := w.heap.size) (.string ⟨#[]⟩) (.int .i64 0) (.int .i64 0) (.int .i64 0) (.int .i64 0) (.int .i64 0) HBW.out (Nat.le_refl _))
      go_wp2
      exact bodyPost_ret (by simp [results, Try.results17, go_sem, rv, noR, y0, y1, y2, y3, y4, y5]) rfl ⟨congrArg (fun y => Ending.returned (rv y)) HRES.out.symm, HE.out⟩
end Go.Proofs.Ytihfdeihpdkjcaa.Goods.Stk
