/-
  Rows compared.
-/
import Derived.Test.YtihfdeihpdkjcaaKRow
import Derived.Laws.StructEq
namespace Go.Proofs.Ytihfdeihpdkjcaa.Goods.Stk
open Go.ChangeShapes Go.WideShapes Go.ChangeAt Go.RowKit Go.Shelf

theorem eq_bytes (a b : ByteArray) : (a.toList == b.toList) = decide (a = b) := by
  by_cases h : a = b
  · rw [bytes_yes h, decide_eq_true h]
  · rw [bytes_no h, decide_eq_false h]
theorem equal_row (x y : Rw) (w : World) : (Op.equalIn 10000 25 (rv x) (rv y)).run Try.prog w = .ok (decide (x = y)) w := by
  have h : decide (x = y) = (decide (x.s = y.s) && (x.n == y.n && (x.f == y.f && (x.h == y.h && (x.p == y.p && x.t == y.t))))) := by
    by_cases e : x = y
    · subst e; simp
    · rw [decide_eq_false e]
      symm
      rw [Bool.eq_false_iff]
      intro hc
      simp only [Bool.and_eq_true, decide_eq_true_eq, beq_iff_eq] at hc
      exact e (Rw.same hc.1 hc.2.1 hc.2.2.1 hc.2.2.2.1 hc.2.2.2.2.1 hc.2.2.2.2.2)
  rw [h, ← eq_bytes]
  unfold rv
  simp [go_sem]
  (repeat' split) <;> simp_all
theorem run_neq_row (x y : Rw) (w : World) : (binOp .neq 25 (rv x) (rv y)).run Try.prog w = .ok (.bool (!decide (x = y))) w := by
  have h := equal_row x y w
  unfold rv at *
  rw [run_neq_struct, h]
  rfl
theorem run_eql_row (x y : Rw) (w : World) : (binOp .eql 25 (rv x) (rv y)).run Try.prog w = .ok (.bool (decide (x = y))) w := by
  have h := equal_row x y w
  unfold rv at *
  rw [run_eql_struct, h]
  rfl
/-- .. spelt out. -/
theorem neq_row (x y : Rw) (w : World) : (binOp .neq 25 (.agg #[.string x.s, .int .i64 x.n, .int .i64 x.f, .int .i64 x.h, .int .i64 x.p, .int .i64 x.t]) (.agg #[.string y.s, .int .i64 y.n, .int .i64 y.f, .int .i64 y.h, .int .i64 y.p, .int .i64 y.t])).run Try.prog w = .ok (.bool (!decide (x = y))) w := run_neq_row x y w
theorem eql_row (x y : Rw) (w : World) : (binOp .eql 25 (.agg #[.string x.s, .int .i64 x.n, .int .i64 x.f, .int .i64 x.h, .int .i64 x.p, .int .i64 x.t]) (.agg #[.string y.s, .int .i64 y.n, .int .i64 y.f, .int .i64 y.h, .int .i64 y.p, .int .i64 y.t])).run Try.prog w = .ok (.bool (decide (x = y))) w := run_eql_row x y w
end Go.Proofs.Ytihfdeihpdkjcaa.Goods.Stk
