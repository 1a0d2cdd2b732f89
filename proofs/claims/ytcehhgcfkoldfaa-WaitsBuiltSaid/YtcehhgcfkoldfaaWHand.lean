/-
  Lines compared; the reference's Less of texts; steps of a drawn region by hand.
-/
import Derived.Test.YtcehhgcfkoldfaaWFunc
import Derived.Laws.StructEq
import Derived.Deep.QuietTactic
import Derived.Deep.CutRange
import Derived.Deep.RegionHeld3
namespace Go.Proofs.Ytcehhgcfkoldfaa.Waits
open Go.ChangeShapes Go.WideShapes Go.ChangeAt Go.RowKit Go.Shelf Go.Lib
open Go.Proofs.Ytcehhgcfkoldfaa.Goods
open Go.Proofs.Ytcehhgcfkoldfaa.Queue (Wt ltB wv QRow)

section
variable {P : Program} {md : Region.Mode} {ops : Array Oper} {Q : Exit → Act → World → Prop} {S : World → Prop}
/-- What is asked behind a panic does not hang on the frame. -/
def Calm (Q : Exit → Act → World → Prop) : Prop := ∀ c a o v w, Q (.panic c) (Act.put a o v) w → Q (.panic c) a w
theorem calm_then {K : Act → World → Prop} (h : Calm Q) : Calm (Exit.then K Q) := h
theorem calm_body {fn : Func} {post : Ending → World → Prop} : Calm (bodyPost P fn post) := fun _ a o _ _ h => by cases o <;> exact h
theorem calm_np : Calm (NoPanic Q) := fun _ _ _ _ _ h => h
/-- An operation whose guard says no is passed over. -/
theorem skipH (i d : Nat) {oi : Oper} {fuel : Nat} {listed : Array Bool} {a : Act} {w : World} (hQ : Calm Q) (hi : ops[i]? = some oi) (hd : oi.dst = some d) (hs : Region.noSelect ops = true) (hf : Region.free md ops listed i = true) (hr : (Region.ready md ops listed).contains i = true)
    (hw : Region.wanted oi (yielded ops a.tmps) = false) (hS : S w)
    (h : wpAnyH P md ops Q S fuel (listed.setIfInBounds i true) (a.put (some d) undef) w) : wpAnyH P md ops Q S (fuel + 1) listed a w :=
  wpAnyH_take hi hs hf hr (fun c a w' => hQ c a _ _ w') (.inr ⟨hw, rfl⟩) hS (by rw [hd]; exact h)
theorem takeH (i d : Nat) (v : Value) {oi : Oper} {fuel : Nat} {listed : Array Bool} {a : Act} {w : World} (hQ : Calm Q) (hi : ops[i]? = some oi) (hd : oi.dst = some d) (hs : Region.noSelect ops = true) (hf : Region.free md ops listed i = true) (hr : (Region.ready md ops listed).contains i = true)
    (hw : Region.wanted oi (yielded ops a.tmps) = true) (hy : ∀ w, S w → (execOp a.eval oi).run P w = .ok (.value v) w) (hS : S w)
    (h : wpAnyH P md ops Q S fuel (listed.setIfInBounds i true) (a.put (some d) v) w) : wpAnyH P md ops Q S (fuel + 1) listed a w :=
  wpAnyH_take hi hs hf hr (fun c a w' => hQ c a _ _ w') (.inl ⟨hw, hy⟩) hS (by rw [hd]; exact h)
end

set_option maxRecDepth 100000 in
set_option maxHeartbeats 1000000 in
theorem refLessT_any (x y : ByteArray) (hx : x.size ≤ 1000000) (_hy : y.size ≤ 1000000) (w : World) : Calls Try.prog 48 #[.string x, .string y] w (BoolB (ltT x y) w) := by
  have HD : Hid (∀ k, k ≤ x.size → k ≤ y.size → x.data.toList.take k = y.data.toList.take k → ltT x y = Op.bytesLess (x.data.toList.drop k) (y.data.toList.drop k)) := fun k h1 h2 h => by
    unfold ltT
    rw [Go.Lib.toList_data, Go.Lib.toList_data]
    exact less_drop k _ _ (by simpa using h1) (by simpa using h2) h
  generalize ltT x y = m at HD ⊢
  go_enter Try.func48, Try.ntmps48
  go_wp2
  go_loopw [5] (fun i wr => ∃ k : Nat, k ≤ x.size ∧ k ≤ y.size ∧ i = .int .i64 k ∧ x.data.toList.take k = y.data.toList.take k ∧ Below w.heap.size w wr) (fun i _ => x.size - (intOf i).toNat)
  case atStart => exact ⟨0, Nat.zero_le _, Nat.zero_le _, rfl, rfl, Below.refl _ _⟩
  case round =>
    obtain ⟨k, hk1, hk2, rfl, heq, hbe⟩ := hrel
    have HQ := Lib.hid heq
    have HBE := Lib.hid hbe
    clear heq hbe
    by_cases h1 : k < x.size
    · by_cases h2 : k < y.size
      · have l1 : k < x.data.toList.length := by simpa using h1
        have l2 : k < y.data.toList.length := by simpa using h2
        have HX : Hid (x.data.toList.drop k = (x[k]'h1) :: x.data.toList.drop (k + 1)) := Lib.hid (List.drop_eq_getElem_cons l1)
        have HY : Hid (y.data.toList.drop k = (y[k]'h2) :: y.data.toList.drop (k + 1)) := Lib.hid (List.drop_eq_getElem_cons l2)
        have HTX : Hid (x.data.toList.take (k + 1) = x.data.toList.take k ++ [x[k]'h1]) := Lib.hid (List.take_succ_eq_append_getElem l1)
        have HTY : Hid (y.data.toList.take (k + 1) = y.data.toList.take k ++ [y[k]'h2]) := Lib.hid (List.take_succ_eq_append_getElem l2)
        have c0 : (0 : Int) ≤ k := by omega
        have c1 : (k : Int) < x.size := by omega
        have c2 : (k : Int) < y.size := by omega
        have b1 := (x[k]'h1).toNat_lt
        have b2 := (y[k]'h2).toNat_lt
        by_cases he : (x[k]'h1) = (y[k]'h2)
        · have HN : Hid (x.data.toList.take (k + 1) = y.data.toList.take (k + 1)) := Lib.hid (by rw [HTX.out, HTY.out, HQ.out, he])
          have e1 : ((x[k]'h1).toNat : Int) = (y[k]'h2).toNat := by rw [he]
          clear he HTX HTY HX HY
          go_upto_region 4 with (fail)
          go_quiet (fail)
          go_wp2_with fail
          go_roundw
          case rel => exact ⟨k + 1, by omega, by omega, by go_num, HN.out, below_trans HBE.out ⟨rfl, rfl, rfl, Nat.le_refl _, fun _ _ => rfl⟩⟩
          case measure => simp [intOf]; omega
        · have hne : ¬ (x[k]'h1).toNat = (y[k]'h2).toNat := fun h => he (UInt8.toNat_inj.1 h)
          have e1 : (((x[k]'h1).toNat : Int) == (y[k]'h2).toNat) = false := by simpa using (by omega : ¬ ((x[k]'h1).toNat : Int) = (y[k]'h2).toNat)
          have e2 : (((x[k]'h1).toNat : Int) != (y[k]'h2).toNat) = true := by simpa using (by omega : ¬ ((x[k]'h1).toNat : Int) = (y[k]'h2).toNat)
          have HM : Hid (m = decide (((x[k]'h1).toNat : Int) < (y[k]'h2).toNat)) := Lib.hid (by
            rw [HD.out k (by omega) (by omega) HQ.out, HX.out, HY.out]
            simp only [Op.bytesLess]
            have : ((x[k]'h1) == (y[k]'h2)) = false := by simpa using he
            rw [this, Bool.false_and, Bool.or_false]
            rw [decide_eq_decide]
            rw [UInt8.lt_iff_toNat_lt]
            omega)
          clear he HTX HTY HX HY hne
          go_upto_region 4 with (fail)
          go_quiet (fail)
          go_wp2_with fail
          go_quiet (fail)
          go_wp2_with fail
          go_ret
          exact ⟨ret_bool (by first | exact HM.out.symm | (rw [HM.out]; done) | (rw [HM.out]; simp; done) | (rw [HM.out]; simp; omega)), below_trans HBE.out ⟨rfl, rfl, rfl, Nat.le_refl _, fun _ _ => rfl⟩⟩
      · obtain rfl : k = y.size := by omega
        have HM : Hid (m = false) := Lib.hid (by
          rw [HD.out y.size (by omega) (by omega) HQ.out, List.drop_of_length_le (by simp : y.data.toList.length ≤ y.size)]
          simp [Op.bytesLess])
        go_wp2
        go_ret
        exact ⟨ret_bool (by rw [HM.out]; simp; omega), HBE.out⟩
    · obtain rfl : k = x.size := by omega
      have HM : Hid (m = decide ((x.size : Int) < y.size)) := Lib.hid (by
        rw [HD.out x.size (by omega) (by omega) HQ.out, List.drop_of_length_le (by simp : x.data.toList.length ≤ x.size)]
        by_cases h2 : x.size < y.size
        · have l2 : x.size < y.data.toList.length := by simpa using h2
          rw [List.drop_eq_getElem_cons l2]
          simp [Op.bytesLess, h2]
        · rw [List.drop_of_length_le (by simp; omega : y.data.toList.length ≤ x.size)]
          simp [Op.bytesLess]
          omega)
      go_wp2
      go_ret
      exact ⟨ret_bool (by first | exact HM.out.symm | (rw [HM.out]; done) | (rw [HM.out]; simp; done) | (rw [HM.out]; simp; omega)), HBE.out⟩

theorem eq_bytes (a b : ByteArray) : (a.toList == b.toList) = decide (a = b) := by
  by_cases h : a = b
  · rw [bytes_yes h, decide_eq_true h]
  · rw [bytes_no h, decide_eq_false h]
theorem equal_line (x y : Ln) (w : World) : (Op.equalIn 10000 26 (lv x) (lv y)).run Try.prog w = .ok (decide (x = y)) w := by
  have h : decide (x = y) = (decide (x.k = y.k) && (x.w.c == y.w.c && (x.w.s == y.w.s && x.w.o == y.w.o))) := by
    by_cases e : x = y
    · subst e; simp
    · rw [decide_eq_false e]
      symm
      rw [Bool.eq_false_iff]
      intro hc
      simp only [Bool.and_eq_true, decide_eq_true_eq, beq_iff_eq] at hc
      exact e (Ln.same hc.1 (Wt.same hc.2.1 hc.2.2.1 hc.2.2.2))
  rw [h, ← eq_bytes]
  unfold lv
  simp [go_sem]
  (repeat' split) <;> simp_all
theorem run_neq_line (x y : Ln) (w : World) : (binOp .neq 26 (lv x) (lv y)).run Try.prog w = .ok (.bool (!decide (x = y))) w := by
  have h := equal_line x y w
  unfold lv at *
  rw [run_neq_struct, h]
  rfl
theorem run_eql_line (x y : Ln) (w : World) : (binOp .eql 26 (lv x) (lv y)).run Try.prog w = .ok (.bool (decide (x = y))) w := by
  have h := equal_line x y w
  unfold lv at *
  rw [run_eql_struct, h]
  rfl
/-- .. spelt out. -/
theorem neq_line (x y : Ln) (w : World) : (binOp .neq 26 (.agg #[.string x.k, .int .i64 x.w.c, .int .i64 x.w.s, .int .i64 x.w.o]) (.agg #[.string y.k, .int .i64 y.w.c, .int .i64 y.w.s, .int .i64 y.w.o])).run Try.prog w = .ok (.bool (!decide (x = y))) w := run_neq_line x y w
theorem eql_line (x y : Ln) (w : World) : (binOp .eql 26 (.agg #[.string x.k, .int .i64 x.w.c, .int .i64 x.w.s, .int .i64 x.w.o]) (.agg #[.string y.k, .int .i64 y.w.c, .int .i64 y.w.s, .int .i64 y.w.o])).run Try.prog w = .ok (.bool (decide (x = y))) w := run_eql_line x y w
end Go.Proofs.Ytcehhgcfkoldfaa.Waits
