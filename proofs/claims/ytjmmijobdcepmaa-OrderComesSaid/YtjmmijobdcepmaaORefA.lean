/-
  The reference: in, May, Pay, Ask, Empty, Load.
-/
import Derived.Test.YtjmmijobdcepmaaOEq
namespace Go.Proofs.Ytjmmijobdcepmaa.Order
open Go.ChangeShapes Go.WideShapes Go.ChangeAt Go.RowKit
open Go.Proofs.Ytjmmijobdcepmaa.Pay (Py RightP UnitP TimeP GoodP)
open Go.Proofs.Ytjmmijobdcepmaa.Ask (As RightA)
open Go.Proofs.Ytjmmijobdcepmaa.Goods (nameB)

section
variable {P : Program} {ops : Array Oper} {rest : List Oper} {op : Oper} {a : Act} {w : World} {Q : Exit → Act → World → Prop}
/-- As load_part and store_part, the operation's kind asked first: so that a trial that does not fit costs nothing. -/
theorem load_at (ty : TypeId) (x : Operand) (ho : op.op = .load ty x) (b o n : Nat) (hx : a.eval x = .pointer (some ⟨b, o, none⟩))
    {vs : List Value} (hc : Box b vs w) (cs : List Value) (hcs : (vs.drop o).take n = cs) (d : TypeDesc) (hu : P.underlying ty = some d) (hd : d.isRow = true) (hi : (P.info? ty).map (·.size) = some cs.length)
    (hw : Region.wanted op (yielded ops a.tmps) = true) (h : wpList P ops Q rest (a.put op.dst (.agg cs.toArray)) w) : wpList P ops Q (op :: rest) a w :=
  load_part hw ty x ho b o n hx hc cs hcs d hu hd hi h
theorem store_at (ty : TypeId) (x y : Operand) (ho : op.op = .store ty x y) (b o : Nat) (hx : a.eval x = .pointer (some ⟨b, o, none⟩))
    (cs : List Value) (hy : (a.eval y).cells = cs.toArray) {vs : List Value} (hc : Box b vs w) (hl : o + cs.length ≤ vs.length) (hi : (P.info? ty).map (·.size) = some cs.length) (h1 : ∀ v ∈ cs, v.oneCell' = true)
    (vs' : List Value) (hv : over vs o cs = vs') (hw : Region.wanted op (yielded ops a.tmps) = true) (h : ∀ w', Box b vs' w' → Turned b w w' → wpList P ops Q rest (a.put op.dst undef) w') : wpList P ops Q (op :: rest) a w :=
  store_part hw ty x y ho b o hx cs hy hc hl hi h1 vs' hv h
end
def inB (n a b : Int) : Bool := decide (a ≤ n ∧ n ≤ b)
theorem in_any (n a b : Int) (w : World) : Calls Try.prog 24 #[.int .i64 n, .int .i64 a, .int .i64 b] w fun e w' => e = .returned (.bool (inB n a b)) ∧ w = w' := by
  unfold inB
  by_cases h1 : a ≤ n
  · have h1' : n ≥ a := h1
    by_cases h2 : n ≤ b
    · rw [decide_eq_true ⟨h1, h2⟩]
      go_enter Try.func24, Try.ntmps24
      go_wp2
      go_ret
      exact ⟨rfl, rfl⟩
    · rw [decide_eq_false (fun h => h2 h.2)]
      go_enter Try.func24, Try.ntmps24
      go_wp2
      go_ret
      exact ⟨rfl, rfl⟩
  · have h1' : ¬ n ≥ a := h1
    rw [decide_eq_false (fun h => h1 h.1)]
    go_enter Try.func24, Try.ntmps24
    go_wp2
    go_ret
    exact ⟨rfl, rfl⟩
theorem inB_t {n a b : Int} : inB n a b = true ↔ a ≤ n ∧ n ≤ b := by unfold inB; exact decide_eq_true_iff
theorem inB_f {n a b : Int} : inB n a b = false ↔ ¬ (a ≤ n ∧ n ≤ b) := by unfold inB; exact decide_eq_false_iff_not

set_option maxRecDepth 100000 in
set_option maxHeartbeats 1000000 in
theorem refMay_any (x : Queue.Wt) (w : World) : Calls Try.prog 25 #[Queue.wv x] w (BoolB (Queue.mayB x) w) := by
  have HP := Lib.hid (Queue.mayB_t (x := x))
  have HF := Lib.hid (Queue.mayB_f (x := x))
  generalize Queue.mayB x = m at HP HF ⊢
  unfold Queue.wv
  unfold Queue.mayP at HP HF
  generalize x.c = c at HP HF ⊢
  generalize x.s = s at HP HF ⊢
  generalize x.o = o at HP HF ⊢
  by_cases h1 : 0 ≤ c ∧ c ≤ 3 ∧ 1 ≤ s ∧ s ≤ 1099511627776 ∧ 1 ≤ o ∧ o ≤ 1099511627776
  · obtain rfl := HP.out.2 h1
    obtain ⟨a1, a2, a3, a4, a5, a6⟩ := h1
    clear HP HF
    go_enter Try.func25, Try.ntmps25
    go_wp2
    go_ret
    exact ⟨rfl, al _ _⟩
  · obtain rfl := HF.out.2 h1
    have HN := Lib.hid h1
    clear h1 HP HF
    go_enter Try.func25, Try.ntmps25
    go_wp2
    all_goals first
      | (exfalso; have := HN.out; omega)
      | (go_ret; exact ⟨rfl, al _ _⟩)
      | (go_ret; exact ⟨ret_bool (by have := HN.out; simp; omega), al _ _⟩)

theorem pay_eq (p : Py) : Pay.rightB p = (inB p.a 0 1125899906842624 && (inB p.c 0 p.a && (inB p.u 0 1099511627776 && inB p.s 1 3))) := by
  rw [Bool.eq_iff_iff]
  simp only [Bool.and_eq_true, inB_t]
  rw [Pay.rightB_t]
  unfold Pay.RightP
  constructor
  · rintro ⟨a1, a2, a3, a4, a5, a6, a7, a8⟩; exact ⟨⟨a1, a2⟩, ⟨a3, a4⟩, ⟨a5, a6⟩, a7, a8⟩
  · rintro ⟨⟨a1, a2⟩, ⟨a3, a4⟩, ⟨a5, a6⟩, a7, a8⟩; exact ⟨a1, a2, a3, a4, a5, a6, a7, a8⟩

set_option maxRecDepth 100000 in
set_option maxHeartbeats 4000000 in
theorem refPay_any (p : Py) (w : World) : Calls Try.prog 27 #[Pay.pv p] w (BoolB (Pay.rightB p) w) := by
  have C1 := Lib.hid (in_any p.a 0 1125899906842624)
  have C2 := Lib.hid (in_any p.c 0 p.a)
  have C3 := Lib.hid (in_any p.u 0 1099511627776)
  have C4 := Lib.hid (in_any p.s 1 3)
  have HB := Lib.hid (al w (.cells #[.int .i64 p.a, .int .i64 p.c, .int .i64 p.u, .int .i64 p.s] 25))
  rw [pay_eq]
  generalize inB p.a 0 1125899906842624 = b1 at C1 ⊢
  generalize inB p.c 0 p.a = b2 at C2 ⊢
  generalize inB p.u 0 1099511627776 = b3 at C3 ⊢
  generalize inB p.s 1 3 = b4 at C4 ⊢
  unfold Pay.pv
  cases b1 with
  | false =>
    go_enter Try.func27, Try.ntmps27
    go_wp2_with (first | (go_at_call 24; (with_reducible refine (C1.out _).mono ?_); rintro e w' ⟨rfl, rfl⟩) | (go_at_call 24; (with_reducible refine (C2.out _).mono ?_); rintro e w' ⟨rfl, rfl⟩) | (go_at_call 24; (with_reducible refine (C3.out _).mono ?_); rintro e w' ⟨rfl, rfl⟩) | (go_at_call 24; (with_reducible refine (C4.out _).mono ?_); rintro e w' ⟨rfl, rfl⟩))
    go_ret
    exact ⟨rfl, HB.out⟩
  | true =>
    cases b2 with
    | false =>
      go_enter Try.func27, Try.ntmps27
      go_wp2_with (first | (go_at_call 24; (with_reducible refine (C1.out _).mono ?_); rintro e w' ⟨rfl, rfl⟩) | (go_at_call 24; (with_reducible refine (C2.out _).mono ?_); rintro e w' ⟨rfl, rfl⟩) | (go_at_call 24; (with_reducible refine (C3.out _).mono ?_); rintro e w' ⟨rfl, rfl⟩) | (go_at_call 24; (with_reducible refine (C4.out _).mono ?_); rintro e w' ⟨rfl, rfl⟩))
      go_ret
      exact ⟨rfl, HB.out⟩
    | true =>
      cases b3 with
      | false =>
        go_enter Try.func27, Try.ntmps27
        go_wp2_with (first | (go_at_call 24; (with_reducible refine (C1.out _).mono ?_); rintro e w' ⟨rfl, rfl⟩) | (go_at_call 24; (with_reducible refine (C2.out _).mono ?_); rintro e w' ⟨rfl, rfl⟩) | (go_at_call 24; (with_reducible refine (C3.out _).mono ?_); rintro e w' ⟨rfl, rfl⟩) | (go_at_call 24; (with_reducible refine (C4.out _).mono ?_); rintro e w' ⟨rfl, rfl⟩))
        go_ret
        exact ⟨rfl, HB.out⟩
      | true =>
        go_enter Try.func27, Try.ntmps27
        go_wp2_with (first | (go_at_call 24; (with_reducible refine (C1.out _).mono ?_); rintro e w' ⟨rfl, rfl⟩) | (go_at_call 24; (with_reducible refine (C2.out _).mono ?_); rintro e w' ⟨rfl, rfl⟩) | (go_at_call 24; (with_reducible refine (C3.out _).mono ?_); rintro e w' ⟨rfl, rfl⟩) | (go_at_call 24; (with_reducible refine (C4.out _).mono ?_); rintro e w' ⟨rfl, rfl⟩))
        go_ret
        exact ⟨rfl, HB.out⟩

theorem ask_eq (p : As) : Ask.rightB p = ((p.s == 0) && (p.u == 0) || (inB p.s 1 3 && inB p.u 0 1099511627776)) := by
  rw [Bool.eq_iff_iff]
  simp only [Bool.and_eq_true, Bool.or_eq_true, inB_t, beq_iff_eq]
  rw [Ask.rightB_t]
  unfold Ask.RightA
  omega

set_option maxRecDepth 100000 in
set_option maxHeartbeats 4000000 in
theorem refAsk_any (p : As) (w : World) : Calls Try.prog 28 #[Ask.av p] w (BoolB (Ask.rightB p) w) := by
  have C1 := Lib.hid (in_any p.s 1 3)
  have C2 := Lib.hid (in_any p.u 0 1099511627776)
  have HB := Lib.hid (al w (.cells #[.int .i64 p.s, .int .i64 p.u] 27))
  rw [ask_eq]
  generalize inB p.s 1 3 = b1 at C1 ⊢
  generalize inB p.u 0 1099511627776 = b2 at C2 ⊢
  unfold Ask.av
  cases h1 : (p.s == 0) with
  | true =>
    cases h2 : (p.u == 0) with
    | true =>
      go_enter Try.func28, Try.ntmps28
      go_wp2_with (first | (go_at_call 24; (with_reducible refine (C1.out _).mono ?_); rintro e w' ⟨rfl, rfl⟩) | (go_at_call 24; (with_reducible refine (C2.out _).mono ?_); rintro e w' ⟨rfl, rfl⟩))
      go_ret
      exact ⟨rfl, HB.out⟩
    | false =>
      cases b1 with
      | false =>
        go_enter Try.func28, Try.ntmps28
        go_wp2_with (first | (go_at_call 24; (with_reducible refine (C1.out _).mono ?_); rintro e w' ⟨rfl, rfl⟩) | (go_at_call 24; (with_reducible refine (C2.out _).mono ?_); rintro e w' ⟨rfl, rfl⟩))
        go_ret
        exact ⟨rfl, HB.out⟩
      | true =>
        go_enter Try.func28, Try.ntmps28
        go_wp2_with (first | (go_at_call 24; (with_reducible refine (C1.out _).mono ?_); rintro e w' ⟨rfl, rfl⟩) | (go_at_call 24; (with_reducible refine (C2.out _).mono ?_); rintro e w' ⟨rfl, rfl⟩))
        go_ret
        exact ⟨rfl, HB.out⟩
  | false =>
    cases b1 with
    | false =>
      go_enter Try.func28, Try.ntmps28
      go_wp2_with (first | (go_at_call 24; (with_reducible refine (C1.out _).mono ?_); rintro e w' ⟨rfl, rfl⟩) | (go_at_call 24; (with_reducible refine (C2.out _).mono ?_); rintro e w' ⟨rfl, rfl⟩))
      go_ret
      exact ⟨rfl, HB.out⟩
    | true =>
      go_enter Try.func28, Try.ntmps28
      go_wp2_with (first | (go_at_call 24; (with_reducible refine (C1.out _).mono ?_); rintro e w' ⟨rfl, rfl⟩) | (go_at_call 24; (with_reducible refine (C2.out _).mono ?_); rintro e w' ⟨rfl, rfl⟩))
      go_ret
      exact ⟨rfl, HB.out⟩

theorem empty_eq (l : Ld) : decide (l = noL) = ((l.k.toList == ByteArray.empty.toList) && ((l.u == 0) && ((l.c == 0) && (l.y == 0)))) := by
  rw [Bool.eq_iff_iff]
  simp only [Bool.and_eq_true, decide_eq_true_eq, beq_iff_eq, eq_bytes]
  constructor
  · intro e; subst e; exact ⟨rfl, rfl, rfl, rfl⟩
  · intro e; exact Ld.same e.1 e.2.1 e.2.2.1 e.2.2.2

set_option maxRecDepth 100000 in
set_option maxHeartbeats 4000000 in
theorem refEmpty_any (l : Ld) (w : World) : Calls Try.prog 29 #[ldv l] w (BoolB (decide (l = noL)) w) := by
  have HB := Lib.hid (al w (.cells #[.string l.k, .int .i64 l.u, .int .i64 l.c, .int .i64 l.y] 23))
  rw [empty_eq]
  have e0 : ByteArray.empty.toList = [] := by rw [ByteArray.toList_eq]; rfl
  rw [e0]
  unfold ldv
  cases h1 : (l.k.toList == []) with
  | false =>
    go_enter Try.func29, Try.ntmps29
    go_wp2_with (first | fail)
    go_ret
    exact ⟨rfl, HB.out⟩
  | true =>
    cases h2 : (l.u == 0) with
    | false =>
      go_enter Try.func29, Try.ntmps29
      go_wp2_with (first | fail)
      go_ret
      exact ⟨rfl, HB.out⟩
    | true =>
      cases h3 : (l.c == 0) with
      | false =>
        go_enter Try.func29, Try.ntmps29
        go_wp2_with (first | fail)
        go_ret
        exact ⟨rfl, HB.out⟩
      | true =>
        cases h4 : (l.y == 0) with
        | false =>
          go_enter Try.func29, Try.ntmps29
          go_wp2_with (first | fail)
          go_ret
          exact ⟨rfl, HB.out⟩
        | true =>
          go_enter Try.func29, Try.ntmps29
          go_wp2_with (first | fail)
          go_ret
          exact ⟨rfl, HB.out⟩

theorem load_eq (o : Od) : decide (LoadP o) = (!((o.l.k.toList == o.k.toList) && (o.l.u != o.l.c)) && (nameB o.l.k && (inB o.l.u 1 1073741824 && (inB o.l.c 1 (o.n - o.d) && inB o.l.y 1 1099511627776)))) := by
  rw [Bool.eq_iff_iff]
  simp only [Bool.and_eq_true, decide_eq_true_eq, Bool.not_eq_true', Bool.and_eq_false_iff, inB_t, eq_bytes]
  unfold LoadP UnitP
  constructor
  · rintro ⟨a1, ⟨a2, a3⟩, a4, a5, a6, a7, a8⟩
    refine ⟨?_, a1, ⟨a2, a3⟩, ⟨a4, a5⟩, a6, a7⟩
    by_cases h : o.l.k = o.k
    · exact .inr (by simp [a8 h])
    · exact .inl (decide_eq_false h)
  · rintro ⟨h, a1, ⟨a2, a3⟩, ⟨a4, a5⟩, a6, a7⟩
    refine ⟨a1, ⟨a2, a3⟩, a4, a5, a6, a7, fun e => ?_⟩
    rcases h with h | h
    · exact absurd e (of_decide_eq_false h)
    · simpa using h

set_option maxRecDepth 100000 in
set_option maxHeartbeats 4000000 in
theorem refLoad_any (o : Od) (h : NumP o) (hk : o.l.k.size ≤ 1000000) (w : World) : Calls Try.prog 30 #[ov o] w (BoolB (decide (LoadP o)) w) := by
  obtain ⟨hx, hy, hb⟩ := two_new w (ocs o) (lcs o.l) 29 23
  obtain ⟨W1, hW1⟩ : ∃ W, (w.alloc (.cells #[.int .i64 o.id, .string o.k, .int .i64 o.cl, .int .i64 o.sq, .int .i64 o.n, .int .i64 o.d, .int .i64 o.p, .int .i64 o.c, .bool o.sp, .int .i64 o.ph, .string o.l.k, .int .i64 o.l.u, .int .i64 o.l.c, .int .i64 o.l.y, .int .i64 o.py.a, .int .i64 o.py.c, .int .i64 o.py.u, .int .i64 o.py.s, .int .i64 o.ak.s, .int .i64 o.ak.u, .bool o.en] 29)).alloc (.cells #[.string o.l.k, .int .i64 o.l.u, .int .i64 o.l.c, .int .i64 o.l.y] 23) = W := ⟨_, rfl⟩
  have HX : Hid (Box w.heap.size (ocs o) W1) := Lib.hid (hW1 ▸ hx)
  have HY : Hid (Box (w.heap.size + 1) (lcs o.l) W1) := Lib.hid (hW1 ▸ hy)
  have HB : Hid (Below w.heap.size w W1) := Lib.hid (hW1 ▸ hb)
  clear hx hy hb
  have HN := Lib.hid (Goods.refName_any o.l.k hk)
  have C1 := Lib.hid (in_any o.l.u 1 1073741824)
  have C2 := Lib.hid (in_any o.l.c 1 (o.n - o.d))
  have C3 := Lib.hid (in_any o.l.y 1 1099511627776)
  have hsub : IntKind.i64.wrap (o.n - o.d) = o.n - o.d := IntWalk.i64_in _ (by have := h.1.2; have := h.2.2.1; have := h.2.2.2.1; omega)
  rw [load_eq]
  generalize nameB o.l.k = b1 at HN ⊢
  generalize inB o.l.u 1 1073741824 = b2 at C1 ⊢
  generalize inB o.l.c 1 (o.n - o.d) = b3 at C2 ⊢
  generalize inB o.l.y 1 1099511627776 = b4 at C3 ⊢
  clear h hk
  obtain ⟨l0, l1, l2, l3⟩ := HY.out.c4
  have y1 := HX.out.at 1 rfl
  have hs1 := HX.out.1
  have hs2 := HY.out.1
  have HV : Hid ((((o.l.k.toList == o.k.toList) = true ∧ (o.l.u != o.l.c) = true)) ∨ (((o.l.k.toList == o.k.toList) = false) ∨ ((o.l.k.toList == o.k.toList) = true ∧ (o.l.u != o.l.c) = false))) := Lib.hid (by
    cases h1 : (o.l.k.toList == o.k.toList) with
    | false => exact .inr (.inl rfl)
    | true => cases h2 : (o.l.u != o.l.c) with
      | true => exact .inl ⟨rfl, rfl⟩
      | false => exact .inr (.inr ⟨rfl, rfl⟩))
  unfold ov
  rcases HV.out with ⟨h1, h2⟩ | h1 | ⟨h1, h2⟩
  · rw [h1, h2]
    go_enter Try.func30, Try.ntmps30
    go_upto_region 2 with (fail)
    clear hW1
    go_wp2_with (first | (go_at_call 26; (with_reducible refine (HN.out _).mono ?_); rintro e w' ⟨rfl, hz⟩; replace HB := Lib.hid (below_trans HB.out hz); replace HX := Lib.hid (HX.out.below hz); replace HY := Lib.hid (HY.out.below hz); clear hz; have l1 := HY.out.at 1 rfl; have l2 := HY.out.at 2 rfl; have l3 := HY.out.at 3 rfl; have y4 := HX.out.at 4 rfl; have y5 := HX.out.at 5 rfl; have hs1 := HX.out.1; have hs2 := HY.out.1) | (go_at_call 24; (with_reducible refine (C1.out _).mono ?_); rintro e w' ⟨rfl, rfl⟩) | (go_at_call 24; (with_reducible refine (C2.out _).mono ?_); rintro e w' ⟨rfl, rfl⟩) | (go_at_call 24; (with_reducible refine (C3.out _).mono ?_); rintro e w' ⟨rfl, rfl⟩))
    go_ret
    exact ⟨rfl, HB.out⟩
  · rw [h1]
    cases b1 with
    | false =>
      go_enter Try.func30, Try.ntmps30
      go_upto_region 2 with (fail)
      clear hW1
      go_wp2_with (first | (go_at_call 26; (with_reducible refine (HN.out _).mono ?_); rintro e w' ⟨rfl, hz⟩; replace HB := Lib.hid (below_trans HB.out hz); replace HX := Lib.hid (HX.out.below hz); replace HY := Lib.hid (HY.out.below hz); clear hz; have l1 := HY.out.at 1 rfl; have l2 := HY.out.at 2 rfl; have l3 := HY.out.at 3 rfl; have y4 := HX.out.at 4 rfl; have y5 := HX.out.at 5 rfl; have hs1 := HX.out.1; have hs2 := HY.out.1) | (go_at_call 24; (with_reducible refine (C1.out _).mono ?_); rintro e w' ⟨rfl, rfl⟩) | (go_at_call 24; (with_reducible refine (C2.out _).mono ?_); rintro e w' ⟨rfl, rfl⟩) | (go_at_call 24; (with_reducible refine (C3.out _).mono ?_); rintro e w' ⟨rfl, rfl⟩))
      go_ret
      exact ⟨rfl, HB.out⟩
    | true =>
      cases b2 with
      | false =>
        go_enter Try.func30, Try.ntmps30
        go_upto_region 2 with (fail)
        clear hW1
        go_wp2_with (first | (go_at_call 26; (with_reducible refine (HN.out _).mono ?_); rintro e w' ⟨rfl, hz⟩; replace HB := Lib.hid (below_trans HB.out hz); replace HX := Lib.hid (HX.out.below hz); replace HY := Lib.hid (HY.out.below hz); clear hz; have l1 := HY.out.at 1 rfl; have l2 := HY.out.at 2 rfl; have l3 := HY.out.at 3 rfl; have y4 := HX.out.at 4 rfl; have y5 := HX.out.at 5 rfl; have hs1 := HX.out.1; have hs2 := HY.out.1) | (go_at_call 24; (with_reducible refine (C1.out _).mono ?_); rintro e w' ⟨rfl, rfl⟩) | (go_at_call 24; (with_reducible refine (C2.out _).mono ?_); rintro e w' ⟨rfl, rfl⟩) | (go_at_call 24; (with_reducible refine (C3.out _).mono ?_); rintro e w' ⟨rfl, rfl⟩))
        go_ret
        exact ⟨rfl, HB.out⟩
      | true =>
        cases b3 with
        | false =>
          go_enter Try.func30, Try.ntmps30
          go_upto_region 2 with (fail)
          clear hW1
          go_wp2_with (first | (go_at_call 26; (with_reducible refine (HN.out _).mono ?_); rintro e w' ⟨rfl, hz⟩; replace HB := Lib.hid (below_trans HB.out hz); replace HX := Lib.hid (HX.out.below hz); replace HY := Lib.hid (HY.out.below hz); clear hz; have l1 := HY.out.at 1 rfl; have l2 := HY.out.at 2 rfl; have l3 := HY.out.at 3 rfl; have y4 := HX.out.at 4 rfl; have y5 := HX.out.at 5 rfl; have hs1 := HX.out.1; have hs2 := HY.out.1) | (go_at_call 24; (with_reducible refine (C1.out _).mono ?_); rintro e w' ⟨rfl, rfl⟩) | (go_at_call 24; (with_reducible refine (C2.out _).mono ?_); rintro e w' ⟨rfl, rfl⟩) | (go_at_call 24; (with_reducible refine (C3.out _).mono ?_); rintro e w' ⟨rfl, rfl⟩))
          go_ret
          exact ⟨rfl, HB.out⟩
        | true =>
          go_enter Try.func30, Try.ntmps30
          go_upto_region 2 with (fail)
          clear hW1
          go_wp2_with (first | (go_at_call 26; (with_reducible refine (HN.out _).mono ?_); rintro e w' ⟨rfl, hz⟩; replace HB := Lib.hid (below_trans HB.out hz); replace HX := Lib.hid (HX.out.below hz); replace HY := Lib.hid (HY.out.below hz); clear hz; have l1 := HY.out.at 1 rfl; have l2 := HY.out.at 2 rfl; have l3 := HY.out.at 3 rfl; have y4 := HX.out.at 4 rfl; have y5 := HX.out.at 5 rfl; have hs1 := HX.out.1; have hs2 := HY.out.1) | (go_at_call 24; (with_reducible refine (C1.out _).mono ?_); rintro e w' ⟨rfl, rfl⟩) | (go_at_call 24; (with_reducible refine (C2.out _).mono ?_); rintro e w' ⟨rfl, rfl⟩) | (go_at_call 24; (with_reducible refine (C3.out _).mono ?_); rintro e w' ⟨rfl, rfl⟩))
          go_ret
          exact ⟨rfl, HB.out⟩
  · rw [h1, h2]
    cases b1 with
    | false =>
      go_enter Try.func30, Try.ntmps30
      go_upto_region 2 with (fail)
      clear hW1
      go_wp2_with (first | (go_at_call 26; (with_reducible refine (HN.out _).mono ?_); rintro e w' ⟨rfl, hz⟩; replace HB := Lib.hid (below_trans HB.out hz); replace HX := Lib.hid (HX.out.below hz); replace HY := Lib.hid (HY.out.below hz); clear hz; have l1 := HY.out.at 1 rfl; have l2 := HY.out.at 2 rfl; have l3 := HY.out.at 3 rfl; have y4 := HX.out.at 4 rfl; have y5 := HX.out.at 5 rfl; have hs1 := HX.out.1; have hs2 := HY.out.1) | (go_at_call 24; (with_reducible refine (C1.out _).mono ?_); rintro e w' ⟨rfl, rfl⟩) | (go_at_call 24; (with_reducible refine (C2.out _).mono ?_); rintro e w' ⟨rfl, rfl⟩) | (go_at_call 24; (with_reducible refine (C3.out _).mono ?_); rintro e w' ⟨rfl, rfl⟩))
      go_ret
      exact ⟨rfl, HB.out⟩
    | true =>
      cases b2 with
      | false =>
        go_enter Try.func30, Try.ntmps30
        go_upto_region 2 with (fail)
        clear hW1
        go_wp2_with (first | (go_at_call 26; (with_reducible refine (HN.out _).mono ?_); rintro e w' ⟨rfl, hz⟩; replace HB := Lib.hid (below_trans HB.out hz); replace HX := Lib.hid (HX.out.below hz); replace HY := Lib.hid (HY.out.below hz); clear hz; have l1 := HY.out.at 1 rfl; have l2 := HY.out.at 2 rfl; have l3 := HY.out.at 3 rfl; have y4 := HX.out.at 4 rfl; have y5 := HX.out.at 5 rfl; have hs1 := HX.out.1; have hs2 := HY.out.1) | (go_at_call 24; (with_reducible refine (C1.out _).mono ?_); rintro e w' ⟨rfl, rfl⟩) | (go_at_call 24; (with_reducible refine (C2.out _).mono ?_); rintro e w' ⟨rfl, rfl⟩) | (go_at_call 24; (with_reducible refine (C3.out _).mono ?_); rintro e w' ⟨rfl, rfl⟩))
        go_ret
        exact ⟨rfl, HB.out⟩
      | true =>
        cases b3 with
        | false =>
          go_enter Try.func30, Try.ntmps30
          go_upto_region 2 with (fail)
          clear hW1
          go_wp2_with (first | (go_at_call 26; (with_reducible refine (HN.out _).mono ?_); rintro e w' ⟨rfl, hz⟩; replace HB := Lib.hid (below_trans HB.out hz); replace HX := Lib.hid (HX.out.below hz); replace HY := Lib.hid (HY.out.below hz); clear hz; have l1 := HY.out.at 1 rfl; have l2 := HY.out.at 2 rfl; have l3 := HY.out.at 3 rfl; have y4 := HX.out.at 4 rfl; have y5 := HX.out.at 5 rfl; have hs1 := HX.out.1; have hs2 := HY.out.1) | (go_at_call 24; (with_reducible refine (C1.out _).mono ?_); rintro e w' ⟨rfl, rfl⟩) | (go_at_call 24; (with_reducible refine (C2.out _).mono ?_); rintro e w' ⟨rfl, rfl⟩) | (go_at_call 24; (with_reducible refine (C3.out _).mono ?_); rintro e w' ⟨rfl, rfl⟩))
          go_ret
          exact ⟨rfl, HB.out⟩
        | true =>
          go_enter Try.func30, Try.ntmps30
          go_upto_region 2 with (fail)
          clear hW1
          go_wp2_with (first | (go_at_call 26; (with_reducible refine (HN.out _).mono ?_); rintro e w' ⟨rfl, hz⟩; replace HB := Lib.hid (below_trans HB.out hz); replace HX := Lib.hid (HX.out.below hz); replace HY := Lib.hid (HY.out.below hz); clear hz; have l1 := HY.out.at 1 rfl; have l2 := HY.out.at 2 rfl; have l3 := HY.out.at 3 rfl; have y4 := HX.out.at 4 rfl; have y5 := HX.out.at 5 rfl; have hs1 := HX.out.1; have hs2 := HY.out.1) | (go_at_call 24; (with_reducible refine (C1.out _).mono ?_); rintro e w' ⟨rfl, rfl⟩) | (go_at_call 24; (with_reducible refine (C2.out _).mono ?_); rintro e w' ⟨rfl, rfl⟩) | (go_at_call 24; (with_reducible refine (C3.out _).mono ?_); rintro e w' ⟨rfl, rfl⟩))
          go_ret
          exact ⟨rfl, HB.out⟩
end Go.Proofs.Ytjmmijobdcepmaa.Order
