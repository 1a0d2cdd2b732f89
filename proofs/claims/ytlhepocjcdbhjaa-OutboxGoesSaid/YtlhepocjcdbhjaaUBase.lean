/-
  What is told and outboxes in memory: as values and in blocks of their own. Contracts of single ones: isKind, isNumber, isTick, mayBe, the reference's in, and the closures by which one is sought.
-/
import Derived.Test.YtlhepocjcdbhjaaURow
import Derived.Laws.StructEq
namespace Go.Proofs.Ytlhepocjcdbhjaa.Outbox
open Go.ChangeShapes Go.WideShapes Go.ChangeAt Go.RowKit Go.Shelf Go.Lib
open Go.Proofs.Ytlhepocjcdbhjaa.Queue (Box al dr below_trans ret_bool BoolB)

theorem two_al (w : World) (o p : Obj) : Below w.heap.size w ((w.alloc o).alloc p) := below_trans (al w o) (al _ p)
theorem makes (fn : Fn) (first cap : Array Value) (w : World) : (Instr.makeFunc fn first cap).run Try.prog w = .ok (.func fn first cap) w := rfl
/-- A function value's function is entered. -/
def Enters (n : Nat) : Prop := ∀ args w, (callFunc n args).run Try.prog w = .ok (.enter n args) w
/-- Something told's cells; an outbox as a value, and its cells. -/
def ocs (x : Ot) : List Value := [.int .i64 x.y, .int .i64 x.k, .int .i64 x.o, .int .i64 x.d]
def bv (t : Int) (v : Value) : Value := .agg #[.int .i64 t, v]
def bcs (t : Int) (v : Value) : List Value := [.int .i64 t, v]
theorem box1 {b : Nat} {c0 : Value} {w : World} (h : Box b [c0] w) : w.cell? ⟨b, 0, none⟩ = some c0 := (h.2 0 _ rfl).1
theorem box2 {b : Nat} {c0 c1 : Value} {w : World} (h : Box b [c0, c1] w) : w.cell? ⟨b, 0, none⟩ = some c0 ∧ w.cell? ⟨b, 1, none⟩ = some c1 := ⟨(h.2 0 _ rfl).1, (h.2 1 _ rfl).1⟩
theorem frz2 {b : Nat} {c0 c1 : Value} {w : World} (h : Box b [c0, c1] w) : w.frozen? ⟨b, 0, none⟩ = false ∧ w.frozen? ⟨b, 1, none⟩ = false := ⟨(h.2 0 _ rfl).2, (h.2 1 _ rfl).2⟩
theorem box4 {b : Nat} {c0 c1 c2 c3 : Value} {w : World} (h : Box b [c0, c1, c2, c3] w) : w.cell? ⟨b, 0, none⟩ = some c0 ∧ w.cell? ⟨b, 1, none⟩ = some c1 ∧ w.cell? ⟨b, 2, none⟩ = some c2 ∧ w.cell? ⟨b, 3, none⟩ = some c3 := ⟨(h.2 0 _ rfl).1, (h.2 1 _ rfl).1, (h.2 2 _ rfl).1, (h.2 3 _ rfl).1⟩
theorem frz4 {b : Nat} {c0 c1 c2 c3 : Value} {w : World} (h : Box b [c0, c1, c2, c3] w) : w.frozen? ⟨b, 0, none⟩ = false ∧ w.frozen? ⟨b, 1, none⟩ = false ∧ w.frozen? ⟨b, 2, none⟩ = false ∧ w.frozen? ⟨b, 3, none⟩ = false := ⟨(h.2 0 _ rfl).2, (h.2 1 _ rfl).2, (h.2 2 _ rfl).2, (h.2 3 _ rfl).2⟩
def NumP (n : Int) : Prop := 1 ≤ n ∧ n ≤ 1099511627776
instance (n : Int) : Decidable (NumP n) := by unfold NumP; exact inferInstance
def TickP (n : Int) : Prop := 0 ≤ n ∧ n ≤ 1099511627776
instance (n : Int) : Decidable (TickP n) := by unfold TickP; exact inferInstance
def KindP (n : Int) : Prop := 1 ≤ n ∧ n ≤ 3
instance (n : Int) : Decidable (KindP n) := by unfold KindP; exact inferInstance

theorem number_any (n : Int) (w : World) : Calls Try.prog 22 #[.int .i64 n] w (fun e w' => e = .returned (.bool (decide (NumP n))) ∧ w = w') := by
  by_cases h1 : 1 ≤ n
  · by_cases h2 : n ≤ 1099511627776
    · rw [decide_eq_true (show NumP n from ⟨h1, h2⟩)]
      go_enter Try.func22, Try.ntmps22
      go_wp2
      go_ret
      exact ⟨rfl, rfl⟩
    · rw [decide_eq_false (show ¬ NumP n from fun h => h2 h.2)]
      go_enter Try.func22, Try.ntmps22
      go_wp2
      go_ret
      exact ⟨rfl, rfl⟩
  · rw [decide_eq_false (show ¬ NumP n from fun h => h1 h.1)]
    go_enter Try.func22, Try.ntmps22
    go_wp2
    go_ret
    exact ⟨rfl, rfl⟩
theorem tick_any (n : Int) (w : World) : Calls Try.prog 23 #[.int .i64 n] w (fun e w' => e = .returned (.bool (decide (TickP n))) ∧ w = w') := by
  by_cases h1 : 0 ≤ n
  · by_cases h2 : n ≤ 1099511627776
    · rw [decide_eq_true (show TickP n from ⟨h1, h2⟩)]
      go_enter Try.func23, Try.ntmps23
      go_wp2
      go_ret
      exact ⟨rfl, rfl⟩
    · rw [decide_eq_false (show ¬ TickP n from fun h => h2 h.2)]
      go_enter Try.func23, Try.ntmps23
      go_wp2
      go_ret
      exact ⟨rfl, rfl⟩
  · rw [decide_eq_false (show ¬ TickP n from fun h => h1 h.1)]
    go_enter Try.func23, Try.ntmps23
    go_wp2
    go_ret
    exact ⟨rfl, rfl⟩
theorem kind_any (n : Int) (w : World) : Calls Try.prog 21 #[.int .i64 n] w (fun e w' => e = .returned (.bool (decide (KindP n))) ∧ w = w') := by
  by_cases h1 : 1 ≤ n
  · by_cases h2 : n ≤ 3
    · rw [decide_eq_true (show KindP n from ⟨h1, h2⟩)]
      go_enter Try.func21, Try.ntmps21
      go_wp2
      go_ret
      exact ⟨rfl, rfl⟩
    · rw [decide_eq_false (show ¬ KindP n from fun h => h2 h.2)]
      go_enter Try.func21, Try.ntmps21
      go_wp2
      go_ret
      exact ⟨rfl, rfl⟩
  · rw [decide_eq_false (show ¬ KindP n from fun h => h1 h.1)]
    go_enter Try.func21, Try.ntmps21
    go_wp2
    go_ret
    exact ⟨rfl, rfl⟩
theorem in_any (n least : Int) (w : World) : Calls Try.prog 31 #[.int .i64 n, .int .i64 least] w (fun e w' => e = .returned (.bool (decide (least ≤ n ∧ n ≤ 1099511627776))) ∧ w = w') := by
  by_cases h1 : n ≥ least
  · by_cases h2 : n ≤ 1099511627776
    · rw [decide_eq_true (show least ≤ n ∧ n ≤ 1099511627776 from ⟨h1, h2⟩)]
      go_enter Try.func31, Try.ntmps31
      go_wp2
      go_ret
      exact ⟨rfl, rfl⟩
    · rw [decide_eq_false (show ¬ (least ≤ n ∧ n ≤ 1099511627776) from fun h => h2 h.2)]
      go_enter Try.func31, Try.ntmps31
      go_wp2
      go_ret
      exact ⟨rfl, rfl⟩
  · rw [decide_eq_false (show ¬ (least ≤ n ∧ n ≤ 1099511627776) from fun h => h1 h.1)]
    go_enter Try.func31, Try.ntmps31
    go_wp2
    go_ret
    exact ⟨rfl, rfl⟩

set_option maxRecDepth 100000 in
set_option maxHeartbeats 1000000 in
theorem mayBe_any (x : Ot) (w : World) : Calls Try.prog 32 #[uv x] w (BoolB (mayU x) w) := by
  have HP := Lib.hid (mayU_t (x := x))
  have HF := Lib.hid (mayU_f (x := x))
  have HB := Lib.hid (al w (.cells #[.int .i64 x.y, .int .i64 x.k, .int .i64 x.o, .int .i64 x.d] 30))
  have h1 := number_any x.y
  have h2 := kind_any x.k
  have h3 := number_any x.o
  have h4 := tick_any x.d
  unfold NumP TickP KindP at *
  generalize mayU x = m at HP HF ⊢
  unfold uv
  by_cases c1 : 1 ≤ x.y ∧ x.y ≤ 1099511627776
  · rw [decide_eq_true c1] at h1
    have H1 := Lib.hid h1
    by_cases c2 : 1 ≤ x.k ∧ x.k ≤ 3
    · rw [decide_eq_true c2] at h2
      have H2 := Lib.hid h2
      by_cases c3 : 1 ≤ x.o ∧ x.o ≤ 1099511627776
      · rw [decide_eq_true c3] at h3
        have H3 := Lib.hid h3
        by_cases c4 : 0 ≤ x.d ∧ x.d ≤ 1099511627776
        · rw [decide_eq_true c4] at h4
          have H4 := Lib.hid h4
          obtain rfl := HP.out.2 (by omega)
          clear HP HF c1 c2 c3 c4 h1 h2 h3 h4
          go_enter Try.func32, Try.ntmps32
          go_wp2_with (first
            | (go_at_call 22; (with_reducible refine (H1.out _).mono ?_); rintro e w' ⟨rfl, rfl⟩)
            | (go_at_call 21; (with_reducible refine (H2.out _).mono ?_); rintro e w' ⟨rfl, rfl⟩)
            | (go_at_call 22; (with_reducible refine (H3.out _).mono ?_); rintro e w' ⟨rfl, rfl⟩)
            | (go_at_call 23; (with_reducible refine (H4.out _).mono ?_); rintro e w' ⟨rfl, rfl⟩))
          go_ret
          exact ⟨rfl, HB.out⟩
        · rw [decide_eq_false c4] at h4
          have H4 := Lib.hid h4
          obtain rfl := HF.out.2 (by omega)
          clear HP HF c1 c2 c3 c4 h1 h2 h3 h4
          go_enter Try.func32, Try.ntmps32
          go_wp2_with (first
            | (go_at_call 22; (with_reducible refine (H1.out _).mono ?_); rintro e w' ⟨rfl, rfl⟩)
            | (go_at_call 21; (with_reducible refine (H2.out _).mono ?_); rintro e w' ⟨rfl, rfl⟩)
            | (go_at_call 22; (with_reducible refine (H3.out _).mono ?_); rintro e w' ⟨rfl, rfl⟩)
            | (go_at_call 23; (with_reducible refine (H4.out _).mono ?_); rintro e w' ⟨rfl, rfl⟩))
          go_ret
          exact ⟨rfl, HB.out⟩
      · rw [decide_eq_false c3] at h3
        have H3 := Lib.hid h3
        obtain rfl := HF.out.2 (by omega)
        clear HP HF c1 c2 c3 h1 h2 h3 h4
        go_enter Try.func32, Try.ntmps32
        go_wp2_with (first
          | (go_at_call 22; (with_reducible refine (H1.out _).mono ?_); rintro e w' ⟨rfl, rfl⟩)
          | (go_at_call 21; (with_reducible refine (H2.out _).mono ?_); rintro e w' ⟨rfl, rfl⟩)
          | (go_at_call 22; (with_reducible refine (H3.out _).mono ?_); rintro e w' ⟨rfl, rfl⟩))
        go_ret
        exact ⟨rfl, HB.out⟩
    · rw [decide_eq_false c2] at h2
      have H2 := Lib.hid h2
      obtain rfl := HF.out.2 (by omega)
      clear HP HF c1 c2 h1 h2 h3 h4
      go_enter Try.func32, Try.ntmps32
      go_wp2_with (first
        | (go_at_call 22; (with_reducible refine (H1.out _).mono ?_); rintro e w' ⟨rfl, rfl⟩)
        | (go_at_call 21; (with_reducible refine (H2.out _).mono ?_); rintro e w' ⟨rfl, rfl⟩))
      go_ret
      exact ⟨rfl, HB.out⟩
  · rw [decide_eq_false c1] at h1
    have H1 := Lib.hid h1
    obtain rfl := HF.out.2 (by omega)
    clear HP HF c1 h1 h2 h3 h4
    go_enter Try.func32, Try.ntmps32
    go_wp2_with (go_at_call 22; (with_reducible refine (H1.out _).mono ?_); rintro e w' ⟨rfl, rfl⟩)
    go_ret
    exact ⟨rfl, HB.out⟩

set_option maxRecDepth 100000 in
set_option maxHeartbeats 1000000 in
theorem isOf1_any (k o : Int) (x : Ot) {g g' : Nat} {w : World} (h : Box g [.int .i64 k] w) (h' : Box g' [.int .i64 o] w) : Calls Try.prog 34 #[uv x, .pointer (some ⟨g, 0, none⟩), .pointer (some ⟨g', 0, none⟩)] w (BoolB (ofB k o x) w) := by
  have HB := Lib.hid (al w (.cells #[.int .i64 x.y, .int .i64 x.k, .int .i64 x.o, .int .i64 x.d] 30))
  have hg := h.1
  have hg' := h'.1
  have c0 := box1 h
  have d0 := box1 h'
  clear h h'
  unfold uv
  by_cases h1 : x.k = k
  · have h2 : (x.k == k) = true := by simpa using h1
    by_cases h3 : x.o = o
    · have h4 : (x.o == o) = true := by simpa using h3
      have HK : Hid (ofB k o x = true) := Lib.hid (ofB_t.2 ⟨h1, h3⟩)
      rw [HK.out]
      clear h1 h3
      go_enter Try.func34, Try.ntmps34
      go_wp2
      go_ret
      exact ⟨rfl, HB.out⟩
    · have h4 : (x.o == o) = false := by simpa using h3
      have HK : Hid (ofB k o x = false) := Lib.hid (ofB_f.2 (fun e => h3 e.2))
      rw [HK.out]
      clear h1 h3
      go_enter Try.func34, Try.ntmps34
      go_wp2
      go_ret
      exact ⟨rfl, HB.out⟩
  · have h2 : (x.k == k) = false := by simpa using h1
    have HK : Hid (ofB k o x = false) := Lib.hid (ofB_f.2 (fun e => h1 e.1))
    rw [HK.out]
    clear h1
    go_enter Try.func34, Try.ntmps34
    go_wp2
    go_ret
    exact ⟨rfl, HB.out⟩
set_option maxRecDepth 100000 in
set_option maxHeartbeats 1000000 in
theorem done1_any (y : Int) (x : Ot) {g : Nat} {w : World} (h : Box g [.int .i64 y] w) : Calls Try.prog 27 #[uv x, .pointer (some ⟨g, 0, none⟩)] w (BoolB (keyB y x) w) := by
  have HB := Lib.hid (al w (.cells #[.int .i64 x.y, .int .i64 x.k, .int .i64 x.o, .int .i64 x.d] 30))
  have hg := h.1
  have c0 := box1 h
  have HK : Hid ((x.y == y) = keyB y x) := Lib.hid (by unfold keyB; by_cases e : x.y = y <;> simp [e])
  clear h
  unfold uv
  go_enter Try.func27, Try.ntmps27
  go_wp2
  go_ret
  exact ⟨ret_bool HK.out, HB.out⟩

/-- A closure over a kind and an order is returned. -/
def IsOfE (k o : Int) (w : World) (e : Ending) (w' : World) : Prop := ∃ g g', e = .returned (.func (.func 34) #[] #[.pointer (some ⟨g, 0, none⟩), .pointer (some ⟨g', 0, none⟩)]) ∧ Box g [.int .i64 k] w' ∧ Box g' [.int .i64 o] w' ∧ Below w.heap.size w w'
set_option maxRecDepth 100000 in
theorem isOf_any (k o : Int) (w : World) : Calls Try.prog 28 #[.int .i64 k, .int .i64 o] w (IsOfE k o w) := by
  have hmf := makes
  have h1 := (Box.made w [.int .i64 k] 3).below (al _ (.cells #[.int .i64 o] 3))
  have h2 := Box.made (w.alloc (.cells #[.int .i64 k] 3)) [.int .i64 o] 3
  simp only [World.size_alloc] at h2
  have H1 := Lib.hid h1
  have H2 := Lib.hid h2
  have HB := Lib.hid (two_al w (.cells #[.int .i64 k] 3) (.cells #[.int .i64 o] 3))
  clear h1 h2
  go_enter Try.func28, Try.ntmps28
  go_wp2_with fail
  go_ret
  exact ⟨_, _, rfl, H1.out, H2.out, HB.out⟩
end Go.Proofs.Ytlhepocjcdbhjaa.Outbox
