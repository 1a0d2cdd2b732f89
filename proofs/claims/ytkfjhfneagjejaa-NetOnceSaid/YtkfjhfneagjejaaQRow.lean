/-
  Waits in memory: a slice that reads as a list of waits; small contracts of package queue: Compare, Or, Less, oneMayBe.
-/
import Derived.Test.YtkfjhfneagjejaaQMath
import Derived.Test.YtkfjhfneagjejaaChecked
import Derived.WalkKit
import Derived.ProofKit
import Derived.OpenShut
import Derived.OwnWalk
import Derived.WalkSpells
import Derived.Below
import Derived.Laws.AppendOwn
import Derived.Deep.Draws
import Derived.Deep.Cut
import Derived.PlainAid
import Derived.Lib.Hide
import Derived.Lib.SmallJoins
import Derived.BigQuiet
import Derived.BigGuard
import Derived.BigRegion
import Derived.IntWalk
import Derived.Deep.QuietTactic
import Derived.Deep.RegionHeld3
import Derived.StillTailTactics
import Derived.Shelf.Abstract
namespace Go.Proofs.Ytkfjhfneagjejaa.Queue
open Go.ChangeShapes Go.WideShapes Go.ChangeAt Go.RowKit

theorem below_trans {a b c : World} (h : Below a.heap.size a b) (h' : Below b.heap.size b c) : Below a.heap.size a c := h.trans (h'.mono h.size)
theorem al (W : World) (o : Obj) : Below W.heap.size W (W.alloc o) := (Below.refl _ _).alloc (Nat.le_refl _) _
theorem dr (W : World) : Below W.heap.size W W.drew := (Below.refl _ _).drew
theorem below_dn (w : World) (n : Nat) : Below w.heap.size w (w.drewN n) := ⟨rfl, rfl, rfl, Nat.le_refl _, fun _ _ => rfl⟩
theorem ret_int {a b : Int} (h : a = b) : Ending.returned (.int .i64 a) = .returned (.int .i64 b) := by rw [h]
theorem ret_bool {a b : Bool} (h : a = b) : Ending.returned (.bool a) = .returned (.bool b) := by rw [h]
/-- A bool is returned; nothing that lay has turned. -/
def BoolB (b : Bool) (w : World) (e : Ending) (w' : World) : Prop := e = .returned (.bool b) ∧ Below w.heap.size w w'
/-- A number is returned; nothing that lay has turned. -/
def IntB (k : Int) (w : World) (e : Ending) (w' : World) : Prop := e = .returned (.int .i64 k) ∧ Below w.heap.size w w'

/-- A block of some cells. -/
def Box (b : Nat) (vs : List Value) (w : World) : Prop := b < w.heap.size ∧ ∀ j v, vs[j]? = some v → w.cell? ⟨b, j, none⟩ = some v ∧ w.frozen? ⟨b, j, none⟩ = false
theorem Box.below {b : Nat} {vs : List Value} {w w' : World} (h : Box b vs w) (hb : Below w.heap.size w w') : Box b vs w' :=
  ⟨Nat.lt_of_lt_of_le h.1 hb.size, fun j v hj => ⟨(hb.cell (p := ⟨b, j, none⟩) h.1).trans (h.2 j v hj).1, (hb.frozen (p := ⟨b, j, none⟩) h.1).trans (h.2 j v hj).2⟩⟩
theorem Box.made (w : World) (vs : List Value) (T : TypeId) : Box w.heap.size vs (w.alloc (.cells vs.toArray T)) := by
  refine ⟨by simp, fun j v hj => ?_⟩
  have := (List.getElem?_eq_some_iff.1 hj).1
  constructor
  · simpa using hj
  · simp
theorem Box.c3 {b : Nat} {c0 c1 c2 : Value} {w : World} (h : Box b [c0, c1, c2] w) : w.cell? ⟨b, 0, none⟩ = some c0 ∧ w.cell? ⟨b, 1, none⟩ = some c1 ∧ w.cell? ⟨b, 2, none⟩ = some c2 := ⟨(h.2 0 _ rfl).1, (h.2 1 _ rfl).1, (h.2 2 _ rfl).1⟩

/-- A wait as a value. -/
def wv (x : Wt) : Value := .agg #[.int .i64 x.c, .int .i64 x.s, .int .i64 x.o]
/-- A slice that reads as these waits. -/
def QRow (w : World) (v : Value) (l : List Wt) : Prop := ∃ (a : Option Addr) (cap : Nat), v = .slice a l.length cap ∧ l.length ≤ cap ∧ cap ≤ 9223372036854775807 ∧
  (0 < l.length → ∃ b off, a = some ⟨b, off, none⟩ ∧ b < w.heap.size ∧ ∀ j (h : j < l.length), w.cell? ⟨b, off + j * 3, none⟩ = some (.int .i64 l[j].c) ∧ w.cell? ⟨b, off + j * 3 + 1, none⟩ = some (.int .i64 l[j].s) ∧ w.cell? ⟨b, off + j * 3 + 2, none⟩ = some (.int .i64 l[j].o))
theorem QRow.below {w w' : World} {v : Value} {l : List Wt} (h : QRow w v l) (hb : Below w.heap.size w w') : QRow w' v l := by
  obtain ⟨a, cap, e, h1, h2, h3⟩ := h
  refine ⟨a, cap, e, h1, h2, fun h0 => ?_⟩
  obtain ⟨b, off, ea, hbl, hc⟩ := h3 h0
  refine ⟨b, off, ea, Nat.lt_of_lt_of_le hbl hb.size, fun j hj => ?_⟩
  obtain ⟨k0, k1, k2⟩ := hc j hj
  exact ⟨(hb.cell (p := ⟨b, off + j * 3, none⟩) hbl).trans k0, (hb.cell (p := ⟨b, off + j * 3 + 1, none⟩) hbl).trans k1, (hb.cell (p := ⟨b, off + j * 3 + 2, none⟩) hbl).trans k2⟩
theorem QRow.slice {w : World} {v : Value} {l : List Wt} (h : QRow w v l) : ∃ a cap, v = .slice a l.length cap := by obtain ⟨a, cap, e, _⟩ := h; exact ⟨a, cap, e⟩
theorem QRow.at {w : World} {a : Option Addr} {cap : Nat} {l : List Wt} (h : QRow w (.slice a l.length cap) l) {q : Nat} (hq : q < l.length) :
    ∃ b off, a = some ⟨b, off, none⟩ ∧ l.length ≤ cap ∧ cap ≤ 9223372036854775807 ∧ b < w.heap.size ∧ w.cell? ⟨b, off + q * 3, none⟩ = some (.int .i64 l[q].c) ∧ w.cell? ⟨b, off + q * 3 + 1, none⟩ = some (.int .i64 l[q].s) ∧ w.cell? ⟨b, off + q * 3 + 2, none⟩ = some (.int .i64 l[q].o) := by
  obtain ⟨a', cap', e, h1, h2, h3⟩ := h
  cases e
  obtain ⟨b, off, ea, hbl, hc⟩ := h3 (by omega)
  exact ⟨b, off, ea, h1, h2, hbl, hc q hq⟩

/-- Compare's answer. -/
def cmpZ (x y : Int) : Int := if x < y then -1 else if y < x then 1 else 0
/-- Or's answer. -/
def orZ (x y z : Int) : Int := if x ≠ 0 then x else if y ≠ 0 then y else z
theorem orZ_lt (a b : Wt) : (orZ (cmpZ a.c b.c) (cmpZ a.s b.s) (cmpZ a.o b.o) < 0) ↔ ltP a b := by
  unfold ltP orZ cmpZ
  by_cases h1 : a.c < b.c
  · simp [h1]
  by_cases h2 : b.c < a.c
  · simp [h1, h2]; omega
  have e : a.c = b.c := by omega
  by_cases h3 : a.s < b.s
  · simp [h3, e]
  by_cases h4 : b.s < a.s
  · simp [h3, h4, e]; omega
  have e2 : a.s = b.s := by omega
  by_cases h5 : a.o < b.o
  · simp [h5, e, e2]
  by_cases h6 : b.o < a.o
  · simp [h5, h6, e, e2]
  · simp [h5, h6, e, e2]
theorem cmpZ_bd (x y : Int) : -1 ≤ cmpZ x y ∧ cmpZ x y ≤ 1 := by
  unfold cmpZ
  split
  · omega
  · split <;> omega

end Go.Proofs.Ytkfjhfneagjejaa.Queue
