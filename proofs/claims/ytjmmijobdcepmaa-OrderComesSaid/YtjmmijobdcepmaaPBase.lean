/-
  Money in memory: as a value of four ints, and in a block of its own. Contracts of package pay: unitsMayBe, tickMayBe, Right, Good.
-/
import Derived.Test.YtjmmijobdcepmaaPMath
import Derived.Test.YtjmmijobdcepmaaChecked
import Derived.WalkKit
import Derived.ProofKit
import Derived.OpenShut
import Derived.OwnWalk
import Derived.WalkSpells
import Derived.Below
import Derived.Deep.Draws
import Derived.Deep.Cut
import Derived.PlainAid
import Derived.Lib.Hide
import Derived.BigQuiet
import Derived.BigGuard
import Derived.BigRegion
import Derived.IntWalk
import Derived.Deep.QuietTactic
import Derived.Deep.RegionHeld3
import Derived.StillTailTactics
import Derived.Laws.StructEq
namespace Go.Proofs.Ytjmmijobdcepmaa.Pay
open Go.ChangeShapes Go.WideShapes Go.ChangeAt Go.RowKit

theorem below_trans {a b c : World} (h : Below a.heap.size a b) (h' : Below b.heap.size b c) : Below a.heap.size a c := h.trans (h'.mono h.size)
theorem al (W : World) (o : Obj) : Below W.heap.size W (W.alloc o) := (Below.refl _ _).alloc (Nat.le_refl _) _
theorem two_al (w : World) (o p : Obj) : Below w.heap.size w ((w.alloc o).alloc p) := below_trans (al w o) (al _ p)
theorem dr (W : World) : Below W.heap.size W W.drew := (Below.refl _ _).drew
theorem ret_bool {a b : Bool} (h : a = b) : Ending.returned (.bool a) = .returned (.bool b) := by rw [h]
/-- A bool is returned; nothing that lay has turned. -/
def BoolB (b : Bool) (w : World) (e : Ending) (w' : World) : Prop := e = .returned (.bool b) ∧ Below w.heap.size w w'
/-- A block of some cells. -/
def Box (b : Nat) (vs : List Value) (w : World) : Prop := b < w.heap.size ∧ ∀ j v, vs[j]? = some v → w.cell? ⟨b, j, none⟩ = some v ∧ w.frozen? ⟨b, j, none⟩ = false
theorem Box.below {b : Nat} {vs : List Value} {w w' : World} (h : Box b vs w) (hb : Below w.heap.size w w') : Box b vs w' :=
  ⟨Nat.lt_of_lt_of_le h.1 hb.size, fun j v hj => ⟨(hb.cell (p := ⟨b, j, none⟩) h.1).trans (h.2 j v hj).1, (hb.frozen (p := ⟨b, j, none⟩) h.1).trans (h.2 j v hj).2⟩⟩
theorem Box.made (w : World) (vs : List Value) (T : TypeId) : Box w.heap.size vs (w.alloc (.cells vs.toArray T)) := by
  refine ⟨by simp, fun j v hj => ?_⟩
  have := (List.getElem?_eq_some_iff.1 hj).1
  constructor
  · simpa using hj
  · simp
theorem Box.c1 {b : Nat} {c0 : Value} {w : World} (h : Box b [c0] w) : w.cell? ⟨b, 0, none⟩ = some c0 := (h.2 0 _ rfl).1
theorem Box.c4 {b : Nat} {c0 c1 c2 c3 : Value} {w : World} (h : Box b [c0, c1, c2, c3] w) : w.cell? ⟨b, 0, none⟩ = some c0 ∧ w.cell? ⟨b, 1, none⟩ = some c1 ∧ w.cell? ⟨b, 2, none⟩ = some c2 ∧ w.cell? ⟨b, 3, none⟩ = some c3 := ⟨(h.2 0 _ rfl).1, (h.2 1 _ rfl).1, (h.2 2 _ rfl).1, (h.2 3 _ rfl).1⟩
theorem Box.z4 {b : Nat} {c0 c1 c2 c3 : Value} {w : World} (h : Box b [c0, c1, c2, c3] w) : w.frozen? ⟨b, 0, none⟩ = false ∧ w.frozen? ⟨b, 1, none⟩ = false ∧ w.frozen? ⟨b, 2, none⟩ = false ∧ w.frozen? ⟨b, 3, none⟩ = false := ⟨(h.2 0 _ rfl).2, (h.2 1 _ rfl).2, (h.2 2 _ rfl).2, (h.2 3 _ rfl).2⟩
theorem Box.c5 {b : Nat} {c0 c1 c2 c3 c4 : Value} {w : World} (h : Box b [c0, c1, c2, c3, c4] w) : w.cell? ⟨b, 0, none⟩ = some c0 ∧ w.cell? ⟨b, 1, none⟩ = some c1 ∧ w.cell? ⟨b, 2, none⟩ = some c2 ∧ w.cell? ⟨b, 3, none⟩ = some c3 ∧ w.cell? ⟨b, 4, none⟩ = some c4 := ⟨(h.2 0 _ rfl).1, (h.2 1 _ rfl).1, (h.2 2 _ rfl).1, (h.2 3 _ rfl).1, (h.2 4 _ rfl).1⟩
theorem Box.z5 {b : Nat} {c0 c1 c2 c3 c4 : Value} {w : World} (h : Box b [c0, c1, c2, c3, c4] w) : w.frozen? ⟨b, 0, none⟩ = false ∧ w.frozen? ⟨b, 1, none⟩ = false ∧ w.frozen? ⟨b, 2, none⟩ = false ∧ w.frozen? ⟨b, 3, none⟩ = false ∧ w.frozen? ⟨b, 4, none⟩ = false := ⟨(h.2 0 _ rfl).2, (h.2 1 _ rfl).2, (h.2 2 _ rfl).2, (h.2 3 _ rfl).2, (h.2 4 _ rfl).2⟩
theorem below_four {W w : World} {b : Nat} (u0 u1 u2 u3 : Value) (h : Below W.heap.size W w) (hb : W.heap.size ≤ b) :
    Below W.heap.size W ((((w.setCell ⟨b, 0, none⟩ u0).setCell ⟨b, 1, none⟩ u1).setCell ⟨b, 2, none⟩ u2).setCell ⟨b, 3, none⟩ u3) :=
  (((h.setCell (p := ⟨b, 0, none⟩) hb u0).setCell (p := ⟨b, 1, none⟩) hb u1).setCell (p := ⟨b, 2, none⟩) hb u2).setCell (p := ⟨b, 3, none⟩) hb u3

/-- Money as a value; its cells. -/
def pv (p : Py) : Value := .agg #[.int .i64 p.a, .int .i64 p.c, .int .i64 p.u, .int .i64 p.s]
def pcs (p : Py) : List Value := [.int .i64 p.a, .int .i64 p.c, .int .i64 p.u, .int .i64 p.s]
/-- Money and an error are returned; nothing that lay has turned. -/
def PayE (p : Py) (z : Int) (w : World) (e : Ending) (w' : World) : Prop := e = .returned (.tuple #[pv p, .int .i64 z]) ∧ Below w.heap.size w w'

theorem units_any (n : Int) (w : World) : Calls Try.prog 42 #[.int .i64 n] w fun e w' => e = .returned (.bool (decide (UnitP n))) ∧ w = w' := by
  by_cases h1 : 1 ≤ n
  · by_cases h2 : n ≤ 1073741824
    · rw [decide_eq_true (show UnitP n from ⟨h1, h2⟩)]
      go_enter Try.func42, Try.ntmps42
      go_wp2
      go_ret
      exact ⟨rfl, rfl⟩
    · rw [decide_eq_false (show ¬ UnitP n from fun h => h2 h.2)]
      go_enter Try.func42, Try.ntmps42
      go_wp2
      go_ret
      exact ⟨rfl, rfl⟩
  · rw [decide_eq_false (show ¬ UnitP n from fun h => h1 h.1)]
    go_enter Try.func42, Try.ntmps42
    go_wp2
    go_ret
    exact ⟨rfl, rfl⟩
theorem tick_any (n : Int) (w : World) : Calls Try.prog 43 #[.int .i64 n] w fun e w' => e = .returned (.bool (decide (TimeP n))) ∧ w = w' := by
  by_cases h1 : 0 ≤ n
  · by_cases h2 : n ≤ 1099511627776
    · rw [decide_eq_true (show TimeP n from ⟨h1, h2⟩)]
      go_enter Try.func43, Try.ntmps43
      go_wp2
      go_ret
      exact ⟨rfl, rfl⟩
    · rw [decide_eq_false (show ¬ TimeP n from fun h => h2 h.2)]
      go_enter Try.func43, Try.ntmps43
      go_wp2
      go_ret
      exact ⟨rfl, rfl⟩
  · rw [decide_eq_false (show ¬ TimeP n from fun h => h1 h.1)]
    go_enter Try.func43, Try.ntmps43
    go_wp2
    go_ret
    exact ⟨rfl, rfl⟩

set_option maxRecDepth 100000 in
set_option maxHeartbeats 1000000 in
theorem Right_any (p : Py) (w : World) : Calls Try.prog 48 #[pv p] w (BoolB (rightB p) w) := by
  have HP := Lib.hid (rightB_t (p := p))
  have HF := Lib.hid (rightB_f (p := p))
  have HT := Lib.hid (tick_any p.u)
  generalize rightB p = m at HP HF ⊢
  unfold pv
  unfold RightP at HP HF
  generalize p.a = a at HP HF ⊢
  generalize p.c = c at HP HF ⊢
  generalize p.u = u at HP HF HT ⊢
  generalize p.s = s at HP HF ⊢
  obtain ⟨t, ht⟩ : ∃ t, decide (TimeP u) = t := ⟨_, rfl⟩
  rw [ht] at HT
  by_cases h1 : 0 ≤ a ∧ a ≤ 1125899906842624 ∧ 0 ≤ c ∧ c ≤ a ∧ 0 ≤ u ∧ u ≤ 1099511627776 ∧ 1 ≤ s ∧ s ≤ 3
  · obtain rfl := HP.out.2 h1
    obtain ⟨a1, a2, a3, a4, a5, a6, a7, a8⟩ := h1
    obtain rfl : t = true := by rw [← ht]; exact decide_eq_true ⟨a5, a6⟩
    clear HP HF ht
    go_enter Try.func48, Try.ntmps48
    go_wp2_with (go_at_call 43; refine (HT.out _).mono ?_; rintro e w' ⟨rfl, rfl⟩)
    go_ret
    exact ⟨rfl, al _ _⟩
  · obtain rfl := HF.out.2 h1
    have HN := Lib.hid h1
    have HTT : Hid (t = true → 0 ≤ u ∧ u ≤ 1099511627776) := Lib.hid (fun e => of_decide_eq_true (ht.trans e))
    clear h1 HP HF ht
    cases t with
    | false =>
      clear HTT
      go_enter Try.func48, Try.ntmps48
      go_wp2_with (go_at_call 43; refine (HT.out _).mono ?_; rintro e w' ⟨rfl, rfl⟩)
      all_goals (go_ret; exact ⟨rfl, al _ _⟩)
    | true =>
      have HU := Lib.hid (HTT.out rfl)
      clear HTT
      go_enter Try.func48, Try.ntmps48
      go_wp2_with (go_at_call 43; refine (HT.out _).mono ?_; rintro e w' ⟨rfl, rfl⟩)
      all_goals (go_ret; exact ⟨ret_bool (by have := HN.out; have := HU.out; first | rfl | (simp; done) | (simp; omega) | (exfalso; omega)), al _ _⟩)

set_option maxRecDepth 100000 in
set_option maxHeartbeats 1000000 in
theorem Good_any (p : Py) (t : Int) (w : World) : Calls Try.prog 39 #[pv p, .int .i64 t] w (BoolB (goodB p t) w) := by
  have HP := Lib.hid (goodB_t (p := p) (t := t))
  have HF := Lib.hid (goodB_f (p := p) (t := t))
  have HR := Lib.hid (Right_any p)
  have HRT := Lib.hid (rightB_t (p := p))
  generalize goodB p t = m at HP HF ⊢
  unfold GoodP at HP HF
  generalize RightP p = R at HP HF HRT
  unfold pv at *
  generalize p.a = a at *
  generalize p.c = c at *
  generalize p.u = u at *
  generalize p.s = s at *
  have HB := Lib.hid (al w (.cells #[.int .i64 a, .int .i64 c, .int .i64 u, .int .i64 s] 25))
  cases hr : rightB p with
  | false =>
    obtain rfl : m = false := HF.out.2 (fun h => by have := HRT.out.2 h.1; rw [hr] at this; cases this)
    rw [hr] at HR
    clear HP HF HRT hr
    go_enter Try.func39, Try.ntmps39
    go_wp2_with (go_at_call 48; refine (HR.out _).mono ?_; rintro e w' ⟨rfl, hz⟩; have HZ := Lib.hid (below_trans HB.out hz); clear hz)
    go_ret
    exact ⟨rfl, HZ.out⟩
  | true =>
    have HRR := HRT.out.1 hr
    rw [hr] at HR
    by_cases h1 : s = 1
    · by_cases h2 : t < u
      · obtain rfl : m = true := HP.out.2 ⟨HRR, h1, h2⟩
        subst h1
        have h3 : u > t := h2
        clear HP HF HRT hr HRR
        go_enter Try.func39, Try.ntmps39
        go_wp2_with (go_at_call 48; refine (HR.out _).mono ?_; rintro e w' ⟨rfl, hz⟩; have HZ := Lib.hid (below_trans HB.out hz); have hbx := (Box.made w [.int .i64 a, .int .i64 c, .int .i64 u, .int .i64 1] 25).below hz; obtain ⟨k0, k1, k2, k3⟩ := hbx.c4; have hs := hbx.1; clear hz hbx)
        go_ret
        exact ⟨rfl, HZ.out⟩
      · obtain rfl : m = false := HF.out.2 (fun h => h2 h.2.2)
        subst h1
        have h3 : ¬ u > t := h2
        clear HP HF HRT hr HRR
        go_enter Try.func39, Try.ntmps39
        go_wp2_with (go_at_call 48; refine (HR.out _).mono ?_; rintro e w' ⟨rfl, hz⟩; have HZ := Lib.hid (below_trans HB.out hz); have hbx := (Box.made w [.int .i64 a, .int .i64 c, .int .i64 u, .int .i64 1] 25).below hz; obtain ⟨k0, k1, k2, k3⟩ := hbx.c4; have hs := hbx.1; clear hz hbx)
        go_ret
        exact ⟨ret_bool (decide_eq_false (by omega)), HZ.out⟩
    · obtain rfl : m = false := HF.out.2 (fun h => h1 h.2.1)
      have h3 : (s == 1) = false := by simpa using h1
      clear HP HF HRT hr HRR h1
      go_enter Try.func39, Try.ntmps39
      go_wp2_with (go_at_call 48; refine (HR.out _).mono ?_; rintro e w' ⟨rfl, hz⟩; have HZ := Lib.hid (below_trans HB.out hz); have hbx := (Box.made w [.int .i64 a, .int .i64 c, .int .i64 u, .int .i64 s] 25).below hz; obtain ⟨k0, k1, k2, k3⟩ := hbx.c4; have hs := hbx.1; clear hz hbx)
      go_ret
      exact ⟨rfl, HZ.out⟩
end Go.Proofs.Ytjmmijobdcepmaa.Pay
