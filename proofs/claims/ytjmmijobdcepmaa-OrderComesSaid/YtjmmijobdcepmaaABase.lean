/-
  Asking in memory: as a value of two ints, and in a block of its own. Contracts of package ask: tickMayBe, isOver, Right, May.
-/
import Derived.Test.YtjmmijobdcepmaaAMath
import Derived.Test.YtjmmijobdcepmaaChecked
import Derived.WalkKit
import Derived.ProofKit
import Derived.OpenShut
import Derived.OwnWalk
import Derived.WalkSpells
import Derived.Below
import Derived.Deep.Draws
import Derived.Deep.Cut
import Derived.PlainAid
import Derived.Lib.Hide
import Derived.BigQuiet
import Derived.BigGuard
import Derived.BigRegion
import Derived.IntWalk
import Derived.Deep.QuietTactic
import Derived.Deep.RegionHeld3
import Derived.StillTailTactics
import Derived.Laws.StructEq
namespace Go.Proofs.Ytjmmijobdcepmaa.Ask
open Go.ChangeShapes Go.WideShapes Go.ChangeAt Go.RowKit

theorem below_trans {a b c : World} (h : Below a.heap.size a b) (h' : Below b.heap.size b c) : Below a.heap.size a c := h.trans (h'.mono h.size)
theorem al (W : World) (o : Obj) : Below W.heap.size W (W.alloc o) := (Below.refl _ _).alloc (Nat.le_refl _) _
theorem two_al (w : World) (o p : Obj) : Below w.heap.size w ((w.alloc o).alloc p) := below_trans (al w o) (al _ p)
theorem ret_bool {a b : Bool} (h : a = b) : Ending.returned (.bool a) = .returned (.bool b) := by rw [h]
/-- A bool is returned; nothing that lay has turned. -/
def BoolB (b : Bool) (w : World) (e : Ending) (w' : World) : Prop := e = .returned (.bool b) ∧ Below w.heap.size w w'
/-- A block of some cells. -/
def Box (b : Nat) (vs : List Value) (w : World) : Prop := b < w.heap.size ∧ ∀ j v, vs[j]? = some v → w.cell? ⟨b, j, none⟩ = some v ∧ w.frozen? ⟨b, j, none⟩ = false
theorem Box.below {b : Nat} {vs : List Value} {w w' : World} (h : Box b vs w) (hb : Below w.heap.size w w') : Box b vs w' :=
  ⟨Nat.lt_of_lt_of_le h.1 hb.size, fun j v hj => ⟨(hb.cell (p := ⟨b, j, none⟩) h.1).trans (h.2 j v hj).1, (hb.frozen (p := ⟨b, j, none⟩) h.1).trans (h.2 j v hj).2⟩⟩
theorem Box.made (w : World) (vs : List Value) (T : TypeId) : Box w.heap.size vs (w.alloc (.cells vs.toArray T)) := by
  refine ⟨by simp, fun j v hj => ?_⟩
  have := (List.getElem?_eq_some_iff.1 hj).1
  constructor
  · simpa using hj
  · simp
theorem Box.c2 {b : Nat} {c0 c1 : Value} {w : World} (h : Box b [c0, c1] w) : w.cell? ⟨b, 0, none⟩ = some c0 ∧ w.cell? ⟨b, 1, none⟩ = some c1 := ⟨(h.2 0 _ rfl).1, (h.2 1 _ rfl).1⟩
theorem Box.z2 {b : Nat} {c0 c1 : Value} {w : World} (h : Box b [c0, c1] w) : w.frozen? ⟨b, 0, none⟩ = false ∧ w.frozen? ⟨b, 1, none⟩ = false := ⟨(h.2 0 _ rfl).2, (h.2 1 _ rfl).2⟩
theorem below_two {W w : World} {b : Nat} (u0 u1 : Value) (h : Below W.heap.size W w) (hb : W.heap.size ≤ b) :
    Below W.heap.size W ((w.setCell ⟨b, 0, none⟩ u0).setCell ⟨b, 1, none⟩ u1) := (h.setCell (p := ⟨b, 0, none⟩) hb u0).setCell (p := ⟨b, 1, none⟩) hb u1
/-- A block of this many cells for the result behind one for the asking. -/
theorem two_boxes (w : World) (us vs : List Value) (T T' : TypeId) : Box w.heap.size us ((w.alloc (.cells us.toArray T)).alloc (.cells vs.toArray T')) ∧ Box (w.heap.size + 1) vs ((w.alloc (.cells us.toArray T)).alloc (.cells vs.toArray T')) := by
  refine ⟨(Box.made w us T).below (al _ _), ?_⟩
  have := Box.made (w.alloc (.cells us.toArray T)) vs T'
  simpa only [World.size_alloc] using this

/-- Asking as a value; its cells. -/
def av (a : As) : Value := .agg #[.int .i64 a.s, .int .i64 a.u]
/-- Asking and an error are returned; nothing that lay has turned. -/
def AskE (a : As) (z : Int) (w : World) (e : Ending) (w' : World) : Prop := e = .returned (.tuple #[av a, .int .i64 z]) ∧ Below w.heap.size w w'
/-- Asking, whether it came to that, and an error are returned; nothing that lay has turned. -/
def LapE (a : As) (b : Bool) (z : Int) (w : World) (e : Ending) (w' : World) : Prop := e = .returned (.tuple #[av a, .bool b, .int .i64 z]) ∧ Below w.heap.size w w'

theorem tick_any (n : Int) (w : World) : Calls Try.prog 49 #[.int .i64 n] w fun e w' => e = .returned (.bool (decide (TimeP n))) ∧ w = w' := by
  by_cases h1 : 0 ≤ n
  · by_cases h2 : n ≤ 1099511627776
    · rw [decide_eq_true (show TimeP n from ⟨h1, h2⟩)]
      go_enter Try.func49, Try.ntmps49
      go_wp2
      go_ret
      exact ⟨rfl, rfl⟩
    · rw [decide_eq_false (show ¬ TimeP n from fun h => h2 h.2)]
      go_enter Try.func49, Try.ntmps49
      go_wp2
      go_ret
      exact ⟨rfl, rfl⟩
  · rw [decide_eq_false (show ¬ TimeP n from fun h => h1 h.1)]
    go_enter Try.func49, Try.ntmps49
    go_wp2
    go_ret
    exact ⟨rfl, rfl⟩

set_option maxRecDepth 100000 in
set_option maxHeartbeats 1000000 in
theorem Right_any (p : As) (w : World) : Calls Try.prog 35 #[av p] w (BoolB (rightB p) w) := by
  have HP := Lib.hid (rightB_t (a := p))
  have HF := Lib.hid (rightB_f (a := p))
  have HT := Lib.hid (tick_any p.u)
  have HB := Lib.hid (al w (.cells #[.int .i64 p.s, .int .i64 p.u] 27))
  generalize rightB p = m at HP HF ⊢
  unfold av
  unfold RightA at HP HF
  generalize p.u = u at HP HF HT HB ⊢
  generalize p.s = s at HP HF HB ⊢
  by_cases h0 : s = 0
  · subst h0
    by_cases h1 : u = 0
    · subst h1
      obtain rfl := HP.out.2 (.inl ⟨rfl, rfl⟩)
      clear HP HF HT
      go_enter Try.func35, Try.ntmps35
      go_wp2
      go_ret
      exact ⟨rfl, HB.out⟩
    · obtain rfl := HF.out.2 (by omega)
      have h2 : (u == 0) = false := by simpa using h1
      clear HP HF HT h1
      go_enter Try.func35, Try.ntmps35
      go_wp2
      go_ret
      exact ⟨rfl, HB.out⟩
  · have hs : (s == 0) = false := by simpa using h0
    by_cases h1 : 1 ≤ s
    · by_cases h3 : s ≤ 3
      · by_cases h5 : TimeP u
        · obtain rfl := HP.out.2 (.inr ⟨h1, h3, h5.1, h5.2⟩)
          rw [decide_eq_true h5] at HT
          clear HP HF h0 h5
          go_enter Try.func35, Try.ntmps35
          go_wp2_with (go_at_call 49; refine (HT.out _).mono ?_; rintro e w' ⟨rfl, rfl⟩)
          go_ret
          exact ⟨rfl, HB.out⟩
        · obtain rfl := HF.out.2 (by rintro (h | h); exact h0 h.1; exact h5 ⟨h.2.2.1, h.2.2.2⟩)
          rw [decide_eq_false h5] at HT
          clear HP HF h0 h5
          go_enter Try.func35, Try.ntmps35
          go_wp2_with (go_at_call 49; refine (HT.out _).mono ?_; rintro e w' ⟨rfl, rfl⟩)
          go_ret
          exact ⟨rfl, HB.out⟩
      · obtain rfl := HF.out.2 (by omega)
        clear HP HF HT h0
        go_enter Try.func35, Try.ntmps35
        go_wp2
        go_ret
        exact ⟨rfl, HB.out⟩
    · obtain rfl := HF.out.2 (by omega)
      clear HP HF HT h0
      go_enter Try.func35, Try.ntmps35
      go_wp2
      go_ret
      exact ⟨rfl, HB.out⟩

end Go.Proofs.Ytjmmijobdcepmaa.Ask
