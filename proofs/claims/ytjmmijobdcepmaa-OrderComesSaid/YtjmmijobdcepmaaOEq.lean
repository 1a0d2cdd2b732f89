/-
  Orders compared; texts of an order that may be are short.
-/
import Derived.Test.YtjmmijobdcepmaaOArg
namespace Go.Proofs.Ytjmmijobdcepmaa.Order
set_option linter.unusedSimpArgs false
open Go.ChangeShapes Go.WideShapes Go.ChangeAt Go.RowKit
open Go.Proofs.Ytjmmijobdcepmaa.Goods (nameB)

theorem name_size {k : ByteArray} (h : nameB k = true) : k.size ≤ 16 := by
  unfold nameB at h
  simp only [Bool.and_eq_true, decide_eq_true_eq] at h
  exact h.1.2
theorem RightO.fits {o : Od} (h : RightO o) : Fits o := by
  obtain ⟨⟨_, hk, _⟩, hp⟩ := h
  have h1 := name_size hk
  refine ⟨by omega, ?_⟩
  have hn : o.l = noL → o.l.k.size ≤ 1000000 := fun e => by rw [e]; decide
  rcases hp with hp | hp | hp | hp | hp
  · exact hn hp.2.2.1.1
  · have := name_size hp.2.1.1; omega
  · exact hn hp.2.2.1.1
  · exact hn hp.2.2.2.1.1
  · exact hn hp.2.2.1.1
theorem eq_step {P : Program} {d : Nat} {xs ys : Array Value} {f : Field} {fs : List Field} {w : World} {a b : Value} {r s : Bool} (hn : f.name ≠ "_") (ha : (part f.type xs f.offset).run P w = .ok a w) (hb : (part f.type ys f.offset).run P w = .ok b w)
    (hr : (Op.equalIn d f.type a b).run P w = .ok r w) (hs : (Op.eqFields d xs ys fs).run P w = .ok s w) : (Op.eqFields d xs ys (f :: fs)).run P w = .ok (r && s) w := by
  unfold Op.eqFields
  rw [if_pos hn]
  simp only [Sem.run_bind, ha, hb, hr, Result.andThen_ok]
  cases r with
  | false => simp
  | true => simpa using hs
set_option maxRecDepth 100000 in
set_option maxHeartbeats 4000000 in
theorem equal_l (d : Nat) (x y : Ld) (w : World) : (Op.equalIn (d + 2) 23 (ldv x) (ldv y)).run Try.prog w = .ok (decide (x = y)) w := by
  have h : decide (x = y) = ((x.k.toList == y.k.toList) && ((x.u == y.u) && ((x.c == y.c) && ((x.y == y.y) && true)))) := by
    rw [Bool.eq_iff_iff]
    simp only [Bool.and_eq_true, decide_eq_true_eq, beq_iff_eq, eq_bytes, and_true]
    constructor
    · intro e; subst e; simp
    · intro e; exact Ld.same e.1 e.2.1 e.2.2.1 e.2.2.2
  rw [h]
  unfold ldv
  refine (run_equalIn_struct (P := Try.prog) w (d + 1) 23 _ _ (by kernel_rfl) (by kernel_rfl)).trans ?_
  simp only [Program.fieldsOf, Try.underlying23]
  refine eq_step (a := .string x.k) (b := .string y.k) (by decide) (by simp [part, go_sem]; done) (by simp [part, go_sem]; done) (run_equalIn_string (P := Try.prog) w _ _ _ _ Try.underlying9) ?_
  refine eq_step (a := .int .i64 x.u) (b := .int .i64 y.u) (by decide) (by simp [part, go_sem]; done) (by simp [part, go_sem]; done) (run_equalIn_int (P := Try.prog) w _ _ .i64 _ _ _ Try.underlying3) ?_
  refine eq_step (a := .int .i64 x.c) (b := .int .i64 y.c) (by decide) (by simp [part, go_sem]; done) (by simp [part, go_sem]; done) (run_equalIn_int (P := Try.prog) w _ _ .i64 _ _ _ Try.underlying3) ?_
  refine eq_step (a := .int .i64 x.y) (b := .int .i64 y.y) (by decide) (by simp [part, go_sem]; done) (by simp [part, go_sem]; done) (run_equalIn_int (P := Try.prog) w _ _ .i64 _ _ _ Try.underlying3) ?_
  rfl
set_option maxRecDepth 100000 in
set_option maxHeartbeats 4000000 in
theorem equal_p (d : Nat) (x y : Pay.Py) (w : World) : (Op.equalIn (d + 2) 25 (Pay.pv x) (Pay.pv y)).run Try.prog w = .ok (decide (x = y)) w := by
  have h : decide (x = y) = ((x.a == y.a) && ((x.c == y.c) && ((x.u == y.u) && ((x.s == y.s) && true)))) := by
    rw [Bool.eq_iff_iff]
    simp only [Bool.and_eq_true, decide_eq_true_eq, beq_iff_eq, eq_bytes, and_true]
    constructor
    · intro e; subst e; simp
    · intro e; exact Pay.Py.same e.1 e.2.1 e.2.2.1 e.2.2.2
  rw [h]
  unfold Pay.pv
  refine (run_equalIn_struct (P := Try.prog) w (d + 1) 25 _ _ (by kernel_rfl) (by kernel_rfl)).trans ?_
  simp only [Program.fieldsOf, Try.underlying25]
  refine eq_step (a := .int .i64 x.a) (b := .int .i64 y.a) (by decide) (by simp [part, go_sem]; done) (by simp [part, go_sem]; done) (run_equalIn_int (P := Try.prog) w _ _ .i64 _ _ _ Try.underlying3) ?_
  refine eq_step (a := .int .i64 x.c) (b := .int .i64 y.c) (by decide) (by simp [part, go_sem]; done) (by simp [part, go_sem]; done) (run_equalIn_int (P := Try.prog) w _ _ .i64 _ _ _ Try.underlying3) ?_
  refine eq_step (a := .int .i64 x.u) (b := .int .i64 y.u) (by decide) (by simp [part, go_sem]; done) (by simp [part, go_sem]; done) (run_equalIn_int (P := Try.prog) w _ _ .i64 _ _ _ Try.underlying3) ?_
  refine eq_step (a := .int .i64 x.s) (b := .int .i64 y.s) (by decide) (by simp [part, go_sem]; done) (by simp [part, go_sem]; done) (run_equalIn_int (P := Try.prog) w _ _ .i64 _ _ _ Try.underlying3) ?_
  rfl
set_option maxRecDepth 100000 in
set_option maxHeartbeats 4000000 in
theorem equal_a (d : Nat) (x y : Ask.As) (w : World) : (Op.equalIn (d + 2) 27 (Ask.av x) (Ask.av y)).run Try.prog w = .ok (decide (x = y)) w := by
  have h : decide (x = y) = ((x.s == y.s) && ((x.u == y.u) && true)) := by
    rw [Bool.eq_iff_iff]
    simp only [Bool.and_eq_true, decide_eq_true_eq, beq_iff_eq, eq_bytes, and_true]
    constructor
    · intro e; subst e; simp
    · intro e; cases x; cases y; simp only at e; rw [e.1, e.2]
  rw [h]
  unfold Ask.av
  refine (run_equalIn_struct (P := Try.prog) w (d + 1) 27 _ _ (by kernel_rfl) (by kernel_rfl)).trans ?_
  simp only [Program.fieldsOf, Try.underlying27]
  refine eq_step (a := .int .i64 x.s) (b := .int .i64 y.s) (by decide) (by simp [part, go_sem]; done) (by simp [part, go_sem]; done) (run_equalIn_int (P := Try.prog) w _ _ .i64 _ _ _ Try.underlying3) ?_
  refine eq_step (a := .int .i64 x.u) (b := .int .i64 y.u) (by decide) (by simp [part, go_sem]; done) (by simp [part, go_sem]; done) (run_equalIn_int (P := Try.prog) w _ _ .i64 _ _ _ Try.underlying3) ?_
  rfl
set_option maxRecDepth 100000 in
set_option maxHeartbeats 4000000 in
theorem equal_o (d : Nat) (x y : Od) (w : World) : (Op.equalIn (d + 3) 29 (ov x) (ov y)).run Try.prog w = .ok (decide (x = y)) w := by
  have h : decide (x = y) = ((x.id == y.id) && ((x.k.toList == y.k.toList) && ((x.cl == y.cl) && ((x.sq == y.sq) && ((x.n == y.n) && ((x.d == y.d) && ((x.p == y.p) && ((x.c == y.c) && ((x.sp == y.sp) && ((x.ph == y.ph) && (decide (x.l = y.l) && (decide (x.py = y.py) && (decide (x.ak = y.ak) && ((x.en == y.en) && true)))))))))))))) := by
    rw [Bool.eq_iff_iff]
    simp only [Bool.and_eq_true, decide_eq_true_eq, beq_iff_eq, eq_bytes, and_true]
    constructor
    · intro e; subst e; simp
    · intro e; exact Od.same e
  rw [h]
  unfold ov
  refine (run_equalIn_struct (P := Try.prog) w (d + 2) 29 _ _ (by kernel_rfl) (by kernel_rfl)).trans ?_
  simp only [Program.fieldsOf, Try.underlying29]
  refine eq_step (a := .int .i64 x.id) (b := .int .i64 y.id) (by decide) (by simp [part, go_sem]; done) (by simp [part, go_sem]; done) (run_equalIn_int (P := Try.prog) w _ _ .i64 _ _ _ Try.underlying3) ?_
  refine eq_step (a := .string x.k) (b := .string y.k) (by decide) (by simp [part, go_sem]; done) (by simp [part, go_sem]; done) (run_equalIn_string (P := Try.prog) w _ _ _ _ Try.underlying9) ?_
  refine eq_step (a := .int .i64 x.cl) (b := .int .i64 y.cl) (by decide) (by simp [part, go_sem]; done) (by simp [part, go_sem]; done) (run_equalIn_int (P := Try.prog) w _ _ .i64 _ _ _ Try.underlying3) ?_
  refine eq_step (a := .int .i64 x.sq) (b := .int .i64 y.sq) (by decide) (by simp [part, go_sem]; done) (by simp [part, go_sem]; done) (run_equalIn_int (P := Try.prog) w _ _ .i64 _ _ _ Try.underlying3) ?_
  refine eq_step (a := .int .i64 x.n) (b := .int .i64 y.n) (by decide) (by simp [part, go_sem]; done) (by simp [part, go_sem]; done) (run_equalIn_int (P := Try.prog) w _ _ .i64 _ _ _ Try.underlying3) ?_
  refine eq_step (a := .int .i64 x.d) (b := .int .i64 y.d) (by decide) (by simp [part, go_sem]; done) (by simp [part, go_sem]; done) (run_equalIn_int (P := Try.prog) w _ _ .i64 _ _ _ Try.underlying3) ?_
  refine eq_step (a := .int .i64 x.p) (b := .int .i64 y.p) (by decide) (by simp [part, go_sem]; done) (by simp [part, go_sem]; done) (run_equalIn_int (P := Try.prog) w _ _ .i64 _ _ _ Try.underlying3) ?_
  refine eq_step (a := .int .i64 x.c) (b := .int .i64 y.c) (by decide) (by simp [part, go_sem]; done) (by simp [part, go_sem]; done) (run_equalIn_int (P := Try.prog) w _ _ .i64 _ _ _ Try.underlying3) ?_
  refine eq_step (a := .bool x.sp) (b := .bool y.sp) (by decide) (by simp [part, go_sem]; done) (by simp [part, go_sem]; done) (run_equalIn_bool' (P := Try.prog) w _ _ _ _ Try.underlying4) ?_
  refine eq_step (a := .int .i64 x.ph) (b := .int .i64 y.ph) (by decide) (by simp [part, go_sem]; done) (by simp [part, go_sem]; done) (run_equalIn_int (P := Try.prog) w _ _ .i64 _ _ _ Try.underlying3) ?_
  refine eq_step (a := ldv x.l) (b := ldv y.l) (by decide) (by simp [part, go_sem, ldv]; done) (by simp [part, go_sem, ldv]; done) (equal_l _ _ _ _) ?_
  refine eq_step (a := Pay.pv x.py) (b := Pay.pv y.py) (by decide) (by simp [part, go_sem, Pay.pv]; done) (by simp [part, go_sem, Pay.pv]; done) (equal_p _ _ _ _) ?_
  refine eq_step (a := Ask.av x.ak) (b := Ask.av y.ak) (by decide) (by simp [part, go_sem, Ask.av]; done) (by simp [part, go_sem, Ask.av]; done) (equal_a _ _ _ _) ?_
  refine eq_step (a := .bool x.en) (b := .bool y.en) (by decide) (by simp [part, go_sem]; done) (by simp [part, go_sem]; done) (run_equalIn_bool' (P := Try.prog) w _ _ _ _ Try.underlying4) ?_
  rfl
theorem equal_order (x y : Od) (w : World) : (Op.equalIn 10000 29 (ov x) (ov y)).run Try.prog w = .ok (decide (x = y)) w := equal_o 9997 x y w
theorem neq_order (x y : Od) (w : World) : (binOp .neq 29 (ov x) (ov y)).run Try.prog w = .ok (.bool (!decide (x = y))) w := by
  have h := equal_order x y w
  unfold ov at *
  rw [run_neq_struct, h]
  rfl
theorem eql_order (x y : Od) (w : World) : (binOp .eql 29 (ov x) (ov y)).run Try.prog w = .ok (.bool (decide (x = y))) w := by
  have h := equal_order x y w
  unfold ov at *
  rw [run_eql_struct, h]
  rfl
end Go.Proofs.Ytjmmijobdcepmaa.Order
