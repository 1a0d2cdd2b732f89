/-
  Orders in memory: as a value of 21 cells, and in a block of its own; loads and orders compared.
-/
import Derived.Test.YtjmmijobdcepmaaOMath
import Derived.Test.YtjmmijobdcepmaaQStand
import Derived.Test.YtjmmijobdcepmaaGRight
import Derived.Test.YtjmmijobdcepmaaPPay
import Derived.Test.YtjmmijobdcepmaaABase
import Derived.Deep.MidRow
namespace Go.Proofs.Ytjmmijobdcepmaa.Order
open Go.ChangeShapes Go.WideShapes Go.ChangeAt Go.RowKit
open Go.Proofs.Ytjmmijobdcepmaa.Pay (Py RightP UnitP TimeP GoodP)
open Go.Proofs.Ytjmmijobdcepmaa.Ask (As RightA)
open Go.Proofs.Ytjmmijobdcepmaa.Goods (nameB)

theorem below_trans {a b c : World} (h : Below a.heap.size a b) (h' : Below b.heap.size b c) : Below a.heap.size a c := h.trans (h'.mono h.size)
theorem al (W : World) (o : Obj) : Below W.heap.size W (W.alloc o) := (Below.refl _ _).alloc (Nat.le_refl _) _
theorem two_al (w : World) (o p : Obj) : Below w.heap.size w ((w.alloc o).alloc p) := below_trans (al w o) (al _ p)
theorem dr (W : World) : Below W.heap.size W W.drew := (Below.refl _ _).drew
theorem ret_bool {a b : Bool} (h : a = b) : Ending.returned (.bool a) = .returned (.bool b) := by rw [h]
theorem ret_int {a b : Int} (h : a = b) : Ending.returned (.int .i64 a) = .returned (.int .i64 b) := by rw [h]
/-- A bool is returned; nothing that lay has turned. -/
def BoolB (b : Bool) (w : World) (e : Ending) (w' : World) : Prop := e = .returned (.bool b) ∧ Below w.heap.size w w'
/-- A number is returned; nothing that lay has turned. -/
def IntB (n : Int) (w : World) (e : Ending) (w' : World) : Prop := e = .returned (.int .i64 n) ∧ Below w.heap.size w w'
/-- A block of some cells. -/
def Box (b : Nat) (vs : List Value) (w : World) : Prop := b < w.heap.size ∧ ∀ j v, vs[j]? = some v → w.cell? ⟨b, j, none⟩ = some v ∧ w.frozen? ⟨b, j, none⟩ = false
theorem Box.below {b : Nat} {vs : List Value} {w w' : World} (h : Box b vs w) (hb : Below w.heap.size w w') : Box b vs w' :=
  ⟨Nat.lt_of_lt_of_le h.1 hb.size, fun j v hj => ⟨(hb.cell (p := ⟨b, j, none⟩) h.1).trans (h.2 j v hj).1, (hb.frozen (p := ⟨b, j, none⟩) h.1).trans (h.2 j v hj).2⟩⟩
theorem Box.made (w : World) (vs : List Value) (T : TypeId) : Box w.heap.size vs (w.alloc (.cells vs.toArray T)) := by
  refine ⟨by simp, fun j v hj => ?_⟩
  have := (List.getElem?_eq_some_iff.1 hj).1
  constructor
  · simpa using hj
  · simp
theorem Box.at {b : Nat} {vs : List Value} {w : World} (h : Box b vs w) (j : Nat) {v : Value} (hj : vs[j]? = some v) : w.cell? ⟨b, j, none⟩ = some v := (h.2 j v hj).1
theorem Box.zt {b : Nat} {vs : List Value} {w : World} (h : Box b vs w) (j : Nat) {v : Value} (hj : vs[j]? = some v) : w.frozen? ⟨b, j, none⟩ = false := (h.2 j v hj).2

/-- An order as a value; its cells. -/
def ov (o : Od) : Value := .agg #[.int .i64 o.id, .string o.k, .int .i64 o.cl, .int .i64 o.sq, .int .i64 o.n, .int .i64 o.d, .int .i64 o.p, .int .i64 o.c, .bool o.sp, .int .i64 o.ph, .string o.l.k, .int .i64 o.l.u, .int .i64 o.l.c, .int .i64 o.l.y, .int .i64 o.py.a, .int .i64 o.py.c, .int .i64 o.py.u, .int .i64 o.py.s, .int .i64 o.ak.s, .int .i64 o.ak.u, .bool o.en]
def ocs (o : Od) : List Value := [.int .i64 o.id, .string o.k, .int .i64 o.cl, .int .i64 o.sq, .int .i64 o.n, .int .i64 o.d, .int .i64 o.p, .int .i64 o.c, .bool o.sp, .int .i64 o.ph, .string o.l.k, .int .i64 o.l.u, .int .i64 o.l.c, .int .i64 o.l.y, .int .i64 o.py.a, .int .i64 o.py.c, .int .i64 o.py.u, .int .i64 o.py.s, .int .i64 o.ak.s, .int .i64 o.ak.u, .bool o.en]

/-- A load as a value; its cells. -/
def ldv (l : Ld) : Value := .agg #[.string l.k, .int .i64 l.u, .int .i64 l.c, .int .i64 l.y]
def lcs (l : Ld) : List Value := [.string l.k, .int .i64 l.u, .int .i64 l.c, .int .i64 l.y]

theorem Box.c21 {b : Nat} {o : Od} {w : World} (h : Box b (ocs o) w) : w.cell? ⟨b, 0, none⟩ = some (.int .i64 o.id) ∧ w.cell? ⟨b, 1, none⟩ = some (.string o.k) ∧ w.cell? ⟨b, 2, none⟩ = some (.int .i64 o.cl) ∧ w.cell? ⟨b, 3, none⟩ = some (.int .i64 o.sq) ∧ w.cell? ⟨b, 4, none⟩ = some (.int .i64 o.n) ∧ w.cell? ⟨b, 5, none⟩ = some (.int .i64 o.d) ∧ w.cell? ⟨b, 6, none⟩ = some (.int .i64 o.p) ∧ w.cell? ⟨b, 7, none⟩ = some (.int .i64 o.c) ∧ w.cell? ⟨b, 8, none⟩ = some (.bool o.sp) ∧ w.cell? ⟨b, 9, none⟩ = some (.int .i64 o.ph) ∧ w.cell? ⟨b, 10, none⟩ = some (.string o.l.k) ∧ w.cell? ⟨b, 11, none⟩ = some (.int .i64 o.l.u) ∧ w.cell? ⟨b, 12, none⟩ = some (.int .i64 o.l.c) ∧ w.cell? ⟨b, 13, none⟩ = some (.int .i64 o.l.y) ∧ w.cell? ⟨b, 14, none⟩ = some (.int .i64 o.py.a) ∧ w.cell? ⟨b, 15, none⟩ = some (.int .i64 o.py.c) ∧ w.cell? ⟨b, 16, none⟩ = some (.int .i64 o.py.u) ∧ w.cell? ⟨b, 17, none⟩ = some (.int .i64 o.py.s) ∧ w.cell? ⟨b, 18, none⟩ = some (.int .i64 o.ak.s) ∧ w.cell? ⟨b, 19, none⟩ = some (.int .i64 o.ak.u) ∧ w.cell? ⟨b, 20, none⟩ = some (.bool o.en) := ⟨(h.2 0 _ rfl).1, (h.2 1 _ rfl).1, (h.2 2 _ rfl).1, (h.2 3 _ rfl).1, (h.2 4 _ rfl).1, (h.2 5 _ rfl).1, (h.2 6 _ rfl).1, (h.2 7 _ rfl).1, (h.2 8 _ rfl).1, (h.2 9 _ rfl).1, (h.2 10 _ rfl).1, (h.2 11 _ rfl).1, (h.2 12 _ rfl).1, (h.2 13 _ rfl).1, (h.2 14 _ rfl).1, (h.2 15 _ rfl).1, (h.2 16 _ rfl).1, (h.2 17 _ rfl).1, (h.2 18 _ rfl).1, (h.2 19 _ rfl).1, (h.2 20 _ rfl).1⟩

theorem Box.z21 {b : Nat} {o : Od} {w : World} (h : Box b (ocs o) w) : w.frozen? ⟨b, 0, none⟩ = false ∧ w.frozen? ⟨b, 1, none⟩ = false ∧ w.frozen? ⟨b, 2, none⟩ = false ∧ w.frozen? ⟨b, 3, none⟩ = false ∧ w.frozen? ⟨b, 4, none⟩ = false ∧ w.frozen? ⟨b, 5, none⟩ = false ∧ w.frozen? ⟨b, 6, none⟩ = false ∧ w.frozen? ⟨b, 7, none⟩ = false ∧ w.frozen? ⟨b, 8, none⟩ = false ∧ w.frozen? ⟨b, 9, none⟩ = false ∧ w.frozen? ⟨b, 10, none⟩ = false ∧ w.frozen? ⟨b, 11, none⟩ = false ∧ w.frozen? ⟨b, 12, none⟩ = false ∧ w.frozen? ⟨b, 13, none⟩ = false ∧ w.frozen? ⟨b, 14, none⟩ = false ∧ w.frozen? ⟨b, 15, none⟩ = false ∧ w.frozen? ⟨b, 16, none⟩ = false ∧ w.frozen? ⟨b, 17, none⟩ = false ∧ w.frozen? ⟨b, 18, none⟩ = false ∧ w.frozen? ⟨b, 19, none⟩ = false ∧ w.frozen? ⟨b, 20, none⟩ = false := ⟨(h.2 0 _ rfl).2, (h.2 1 _ rfl).2, (h.2 2 _ rfl).2, (h.2 3 _ rfl).2, (h.2 4 _ rfl).2, (h.2 5 _ rfl).2, (h.2 6 _ rfl).2, (h.2 7 _ rfl).2, (h.2 8 _ rfl).2, (h.2 9 _ rfl).2, (h.2 10 _ rfl).2, (h.2 11 _ rfl).2, (h.2 12 _ rfl).2, (h.2 13 _ rfl).2, (h.2 14 _ rfl).2, (h.2 15 _ rfl).2, (h.2 16 _ rfl).2, (h.2 17 _ rfl).2, (h.2 18 _ rfl).2, (h.2 19 _ rfl).2, (h.2 20 _ rfl).2⟩

theorem Box.c4 {b : Nat} {l : Ld} {w : World} (h : Box b (lcs l) w) : w.cell? ⟨b, 0, none⟩ = some (.string l.k) ∧ w.cell? ⟨b, 1, none⟩ = some (.int .i64 l.u) ∧ w.cell? ⟨b, 2, none⟩ = some (.int .i64 l.c) ∧ w.cell? ⟨b, 3, none⟩ = some (.int .i64 l.y) := ⟨(h.2 0 _ rfl).1, (h.2 1 _ rfl).1, (h.2 2 _ rfl).1, (h.2 3 _ rfl).1⟩
theorem Box.range {b : Nat} {vs : List Value} {w : World} (h : Box b vs w) : w.rangeAt b 0 vs := fun j v hj => by rw [Nat.zero_add]; exact (h.2 j v hj).1
theorem Box.there {b : Nat} {vs : List Value} {w : World} (h : Box b vs w) : w.there b 0 vs.length := fun j hj => by
  rw [Nat.zero_add]
  have := h.2 j _ (List.getElem?_eq_getElem hj)
  exact ⟨by rw [this.1]; rfl, this.2⟩
theorem infoO : (Try.prog.info? 29).map (·.size) = some 21 := by kernel_rfl
/-- A row of cells is read as one value. -/
theorem exec_load {P : Program} {ev : Operand → Value} {oi : Oper} {w : World} (ty : TypeId) (x : Operand) (ho : oi.op = .load ty x) (b o : Nat) (hx : ev x = .pointer (some ⟨b, o, none⟩)) (cs : List Value) (d : TypeDesc) (hc : w.rangeAt b o cs)
    (hu : P.underlying ty = some d) (hd : d.isRow = true) (hi : (P.info? ty).map (·.size) = some cs.length) : (execOp ev oi).run P w = .ok (.value (.agg cs.toArray)) w := by
  unfold execOp
  simp only [ho, hx, Instr.loadAt, Instr.sureAddr, Sem.run_bind, Sem.run_pure, Result.andThen_ok, run_loadVar_mid w b o ty cs d hc hu hd hi]
/-- An order in a block of its own, on entry. -/
theorem order_box (w : World) (o : Od) (T : TypeId) : Box w.heap.size (ocs o) (w.alloc (.cells (ocs o).toArray T)) := Box.made w _ T

theorem eq_bytes (a b : ByteArray) : (a.toList == b.toList) = decide (a = b) := by
  by_cases h : a = b
  · rw [Goods.bytes_yes h, decide_eq_true h]
  · rw [Goods.bytes_no h, decide_eq_false h]
theorem equal_load (x y : Ld) (w : World) : (Op.equalIn 10000 23 (ldv x) (ldv y)).run Try.prog w = .ok (decide (x = y)) w := by
  have h : decide (x = y) = (decide (x.k = y.k) && (x.u == y.u && (x.c == y.c && x.y == y.y))) := by
    by_cases e : x = y
    · subst e; simp
    · rw [decide_eq_false e]
      symm
      rw [Bool.eq_false_iff]
      intro hc
      simp only [Bool.and_eq_true, decide_eq_true_eq, beq_iff_eq] at hc
      exact e (Ld.same hc.1 hc.2.1 hc.2.2.1 hc.2.2.2)
  rw [h, ← eq_bytes]
  unfold ldv
  simp [go_sem]
  (repeat' split) <;> simp_all
theorem eql_load (x y : Ld) (w : World) : (binOp .eql 23 (ldv x) (ldv y)).run Try.prog w = .ok (.bool (decide (x = y))) w := by
  have h := equal_load x y w
  unfold ldv at *
  rw [run_eql_struct, h]
  rfl

end Go.Proofs.Ytjmmijobdcepmaa.Order
