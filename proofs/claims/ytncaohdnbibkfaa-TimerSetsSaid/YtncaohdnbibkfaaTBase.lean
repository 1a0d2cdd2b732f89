/-
  Contracts of single timers: how two stand (below, the reference's Less), which may be (mayBe, the reference's May), and the closures that rows of them are parted by.
-/
import Derived.Test.YtncaohdnbibkfaaTOwn
import Derived.Test.YtncaohdnbibkfaaQLess
namespace Go.Proofs.Ytncaohdnbibkfaa.Timer
open Go.ChangeShapes Go.WideShapes Go.ChangeAt Go.RowKit Go.Shelf Go.Lib
open Go.Proofs.Ytncaohdnbibkfaa.Queue

theorem two_al (w : World) (o p : Obj) : Below w.heap.size w ((w.alloc o).alloc p) := below_trans (al w o) (al _ p)
theorem makes (fn : Fn) (first cap : Array Value) (w : World) : (Instr.makeFunc fn first cap).run Try.prog w = .ok (.func fn first cap) w := rfl
/-- A function value's function is entered. -/
def Enters (n : Nat) : Prop := ∀ args w, (callFunc n args).run Try.prog w = .ok (.enter n args) w
/-- A timer's cells. -/
def tcs (x : Wt) : List Value := [.int .i64 x.c, .int .i64 x.s, .int .i64 x.o]

set_option maxRecDepth 100000 in
set_option maxHeartbeats 1000000 in
theorem below_any (a b : Wt) (w : World) : Calls Try.prog 23 #[wv a, wv b] w (BoolB (ltB a b) w) := by
  have HL := Lib.hid (orZ_lt a b)
  have h1 := Box.made w [.int .i64 a.c, .int .i64 a.s, .int .i64 a.o] 24
  have HB1 := Lib.hid (h1.below (al _ (.cells #[.int .i64 b.c, .int .i64 b.s, .int .i64 b.o] 24)))
  have h2 := Box.made (w.alloc (.cells #[.int .i64 a.c, .int .i64 a.s, .int .i64 a.o] 24)) [.int .i64 b.c, .int .i64 b.s, .int .i64 b.o] 24
  simp only [World.size_alloc] at h2
  have HB2 := Lib.hid h2
  have HBW := Lib.hid (below_trans (al w (.cells #[.int .i64 a.c, .int .i64 a.s, .int .i64 a.o] 24)) (al _ (.cells #[.int .i64 b.c, .int .i64 b.s, .int .i64 b.o] 24)))
  obtain ⟨l0, u0⟩ := cmpZ_bd a.c b.c
  obtain ⟨l1, u1⟩ := cmpZ_bd a.s b.s
  obtain ⟨l2, u2⟩ := cmpZ_bd a.o b.o
  obtain ⟨k0, e0⟩ : ∃ k, cmpZ a.c b.c = k := ⟨_, rfl⟩
  obtain ⟨k1, e1⟩ : ∃ k, cmpZ a.s b.s = k := ⟨_, rfl⟩
  obtain ⟨k2, e2⟩ : ∃ k, cmpZ a.o b.o = k := ⟨_, rfl⟩
  have HC0 := Lib.hid (fun W => e0 ▸ Compare_any a.c b.c W)
  have HC1 := Lib.hid (fun W => e1 ▸ Compare_any a.s b.s W)
  have HC2 := Lib.hid (fun W => e2 ▸ Compare_any a.o b.o W)
  rw [e0, e1, e2] at HL
  clear h1 h2 e0 e1 e2 l0 u0 l1 u1 l2 u2
  unfold wv
  go_enter Try.func23, Try.ntmps23
  go_upto_region 1 with (fail)
  generalize hW : (w.alloc (.cells #[.int .i64 a.c, .int .i64 a.s, .int .i64 a.o] 24)).alloc (.cells #[.int .i64 b.c, .int .i64 b.s, .int .i64 b.o] 24) = W at HB1 HB2 HBW ⊢
  clear hW
  obtain ⟨c0, c1, c2⟩ := HB1.out.c3
  obtain ⟨d0, d1, d2⟩ := HB2.out.c3
  have hs1 := HB1.out.1
  have hs2 := HB2.out.1
  go_region_held3 (fun w' => w'.cell? ⟨w.heap.size, 0, none⟩ = some (.int .i64 a.c) ∧ w'.cell? ⟨w.heap.size, 1, none⟩ = some (.int .i64 a.s) ∧ w'.cell? ⟨w.heap.size, 2, none⟩ = some (.int .i64 a.o) ∧ w'.cell? ⟨w.heap.size + 1, 0, none⟩ = some (.int .i64 b.c) ∧ w'.cell? ⟨w.heap.size + 1, 1, none⟩ = some (.int .i64 b.s) ∧ w'.cell? ⟨w.heap.size + 1, 2, none⟩ = some (.int .i64 b.o)) (go_keep)
    (first
      | (go_at_call 30; (with_reducible refine (HC0.out _).mono ?_); rintro e w' ⟨rfl, rfl⟩)
      | (go_at_call 30; (with_reducible refine (HC1.out _).mono ?_); rintro e w' ⟨rfl, rfl⟩)
      | (go_at_call 30; (with_reducible refine (HC2.out _).mono ?_); rintro e w' ⟨rfl, rfl⟩)
      | (go_at_call 29; refine (Or_any (x := k0) (y := k1) (z := k2) ((Box.made W [.int .i64 k0, .int .i64 k1, .int .i64 k2] 3).below (dr _))).mono ?_; rintro e w' ⟨rfl, rfl⟩)
      | fail)
  go_wp2_with fail
  go_ret
  exact ⟨ret_bool (decide_eq_decide.2 HL.out), below_trans (below_trans HBW.out (al W (.cells #[.int .i64 k0, .int .i64 k1, .int .i64 k2] 3))) (dr _)⟩

set_option maxRecDepth 100000 in
set_option maxHeartbeats 1000000 in
theorem refLess_any (a b : Wt) (w : World) : Calls Try.prog 27 #[wv a, wv b] w (BoolB (ltB a b) w) := by
  have HP := Lib.hid (ltB_t (a := a) (b := b))
  have HF := Lib.hid (ltB_f (a := a) (b := b))
  have HB := Lib.hid (below_trans (al w (.cells #[.int .i64 a.c, .int .i64 a.s, .int .i64 a.o] 24)) (al _ (.cells #[.int .i64 b.c, .int .i64 b.s, .int .i64 b.o] 24)))
  generalize ltB a b = m at HP HF ⊢
  unfold wv
  unfold ltP at HP HF
  generalize a.c = ac at *
  generalize a.s = a2 at *
  generalize a.o = ao at *
  generalize b.c = bc at *
  generalize b.s = bs at *
  generalize b.o = bo at *
  by_cases h1 : ac < bc ∨ ac = bc ∧ (a2 < bs ∨ a2 = bs ∧ ao < bo)
  · obtain rfl := HP.out.2 h1
    have HN := Lib.hid h1
    clear h1 HP HF
    go_enter Try.func27, Try.ntmps27
    go_wp2
    all_goals (go_ret; exact ⟨ret_bool (by have := HN.out; simp at *; omega), HB.out⟩)
  · obtain rfl := HF.out.2 h1
    have HN := Lib.hid h1
    clear h1 HP HF
    go_enter Try.func27, Try.ntmps27
    go_wp2
    all_goals (go_ret; exact ⟨ret_bool (by have := HN.out; simp at *; omega), HB.out⟩)

theorem mayT_t {x : Wt} : mayT x = true ↔ (0 ≤ x.c ∧ x.c ≤ 1099511627776 ∧ 1 ≤ x.s ∧ x.s ≤ 3 ∧ 1 ≤ x.o ∧ x.o ≤ 1099511627776) := by unfold mayT; exact decide_eq_true_iff
theorem mayT_f {x : Wt} : mayT x = false ↔ ¬ (0 ≤ x.c ∧ x.c ≤ 1099511627776 ∧ 1 ≤ x.s ∧ x.s ≤ 3 ∧ 1 ≤ x.o ∧ x.o ≤ 1099511627776) := by unfold mayT; exact decide_eq_false_iff_not
set_option maxRecDepth 100000 in
set_option maxHeartbeats 1000000 in
theorem refMay_any (x : Wt) (w : World) : Calls Try.prog 17 #[wv x] w (BoolB (mayT x) w) := by
  have HP := Lib.hid (mayT_t (x := x))
  have HF := Lib.hid (mayT_f (x := x))
  generalize mayT x = m at HP HF ⊢
  unfold wv
  generalize x.c = c at HP HF ⊢
  generalize x.s = s at HP HF ⊢
  generalize x.o = o at HP HF ⊢
  by_cases h1 : 0 ≤ c ∧ c ≤ 1099511627776 ∧ 1 ≤ s ∧ s ≤ 3 ∧ 1 ≤ o ∧ o ≤ 1099511627776
  · obtain rfl := HP.out.2 h1
    obtain ⟨a1, a2, a3, a4, a5, a6⟩ := h1
    clear HP HF
    go_enter Try.func17, Try.ntmps17
    go_wp2
    go_ret
    exact ⟨rfl, al _ _⟩
  · obtain rfl := HF.out.2 h1
    have HN := Lib.hid h1
    clear h1 HP HF
    go_enter Try.func17, Try.ntmps17
    go_wp2
    all_goals first
      | (exfalso; have := HN.out; omega)
      | (go_ret; exact ⟨rfl, al _ _⟩)
      | (go_ret; exact ⟨ret_bool (by have := HN.out; simp; omega), al _ _⟩)
set_option maxRecDepth 100000 in
set_option maxHeartbeats 1000000 in
theorem mayBe_any (x : Wt) (w : World) : Calls Try.prog 19 #[wv x] w (BoolB (mayT x) w) := by
  have HP := Lib.hid (mayT_t (x := x))
  have HF := Lib.hid (mayT_f (x := x))
  generalize mayT x = m at HP HF ⊢
  unfold wv
  generalize x.c = c at HP HF ⊢
  generalize x.s = s at HP HF ⊢
  generalize x.o = o at HP HF ⊢
  by_cases h1 : 0 ≤ c ∧ c ≤ 1099511627776 ∧ 1 ≤ s ∧ s ≤ 3 ∧ 1 ≤ o ∧ o ≤ 1099511627776
  · obtain rfl := HP.out.2 h1
    obtain ⟨a1, a2, a3, a4, a5, a6⟩ := h1
    clear HP HF
    go_enter Try.func19, Try.ntmps19
    go_wp2
    go_ret
    exact ⟨rfl, al _ _⟩
  · obtain rfl := HF.out.2 h1
    have HN := Lib.hid h1
    clear h1 HP HF
    go_enter Try.func19, Try.ntmps19
    go_wp2
    all_goals first
      | (exfalso; have := HN.out; omega)
      | (go_ret; exact ⟨rfl, al _ _⟩)
      | (go_ret; exact ⟨ret_bool (by have := HN.out; simp; omega), al _ _⟩)

theorem box1 {b : Nat} {c0 : Value} {w : World} (h : Box b [c0] w) : w.cell? ⟨b, 0, none⟩ = some c0 := (h.2 0 _ rfl).1
set_option maxRecDepth 100000 in
set_option maxHeartbeats 1000000 in
theorem isOf1_any (k o : Int) (x : Wt) {g g' : Nat} {w : World} (h : Box g [.int .i64 k] w) (h' : Box g' [.int .i64 o] w) : Calls Try.prog 28 #[wv x, .pointer (some ⟨g, 0, none⟩), .pointer (some ⟨g', 0, none⟩)] w (BoolB (keyB k o x) w) := by
  have HB := Lib.hid (al w (.cells #[.int .i64 x.c, .int .i64 x.s, .int .i64 x.o] 24))
  have hg := h.1
  have hg' := h'.1
  have c0 := box1 h
  have d0 := box1 h'
  clear h h'
  unfold wv
  by_cases h1 : x.s = k
  · have h2 : (x.s == k) = true := by simpa using h1
    by_cases h3 : x.o = o
    · have h4 : (x.o == o) = true := by simpa using h3
      have HK : Hid (keyB k o x = true) := Lib.hid (keyB_t.2 ⟨h1, h3⟩)
      rw [HK.out]
      clear h1 h3
      go_enter Try.func28, Try.ntmps28
      go_wp2
      go_ret
      exact ⟨rfl, HB.out⟩
    · have h4 : (x.o == o) = false := by simpa using h3
      have HK : Hid (keyB k o x = false) := Lib.hid (keyB_f.2 (fun e => h3 e.2))
      rw [HK.out]
      clear h1 h3
      go_enter Try.func28, Try.ntmps28
      go_wp2
      go_ret
      exact ⟨rfl, HB.out⟩
  · have h2 : (x.s == k) = false := by simpa using h1
    have HK : Hid (keyB k o x = false) := Lib.hid (keyB_f.2 (fun e => h1 e.1))
    rw [HK.out]
    clear h1
    go_enter Try.func28, Try.ntmps28
    go_wp2
    go_ret
    exact ⟨rfl, HB.out⟩

/-- A closure over a kind and an order is returned. -/
def IsOfE (k o : Int) (w : World) (e : Ending) (w' : World) : Prop := ∃ g g', e = .returned (.func (.func 28) #[] #[.pointer (some ⟨g, 0, none⟩), .pointer (some ⟨g', 0, none⟩)]) ∧ Box g [.int .i64 k] w' ∧ Box g' [.int .i64 o] w' ∧ Below w.heap.size w w'
set_option maxRecDepth 100000 in
theorem isOf_any (k o : Int) (w : World) : Calls Try.prog 21 #[.int .i64 k, .int .i64 o] w (IsOfE k o w) := by
  have hmf := makes
  have h1 := (Box.made w [.int .i64 k] 3).below (al _ (.cells #[.int .i64 o] 3))
  have h2 := Box.made (w.alloc (.cells #[.int .i64 k] 3)) [.int .i64 o] 3
  simp only [World.size_alloc] at h2
  have H1 := Lib.hid h1
  have H2 := Lib.hid h2
  have HB := Lib.hid (two_al w (.cells #[.int .i64 k] 3) (.cells #[.int .i64 o] 3))
  clear h1 h2
  go_enter Try.func21, Try.ntmps21
  go_wp2_with fail
  go_ret
  exact ⟨_, _, rfl, H1.out, H2.out, HB.out⟩
set_option maxRecDepth 100000 in
set_option maxHeartbeats 1000000 in
theorem set1_any (x y : Wt) {g : Nat} {w : World} (h : Box g (tcs x) w) : Calls Try.prog 22 #[wv y, .pointer (some ⟨g, 0, none⟩)] w (BoolB (ltB y x) w) := by
  have HB := Lib.hid (al w (.cells #[.int .i64 y.c, .int .i64 y.s, .int .i64 y.o] 24))
  have hg := h.1
  obtain ⟨c0, c1, c2⟩ := h.c3
  have HC := Lib.hid (fun W => below_any y x W)
  clear h
  unfold wv at *
  generalize ltB y x = m at *
  go_enter Try.func22, Try.ntmps22
  go_wp2_with (go_at_call 23; (with_reducible refine (HC.out _).mono ?_); rintro e w' ⟨rfl, hz⟩; have HZ := Lib.hid (below_trans HB.out hz); clear hz)
  go_ret
  exact ⟨rfl, HZ.out⟩
set_option maxRecDepth 100000 in
set_option maxHeartbeats 1000000 in
theorem due1_any (t : Int) (y : Wt) {g : Nat} {w : World} (h : Box g [.int .i64 t] w) : Calls Try.prog 25 #[wv y, .pointer (some ⟨g, 0, none⟩)] w (BoolB (decide (y.c ≤ t)) w) := by
  have HB := Lib.hid (al w (.cells #[.int .i64 y.c, .int .i64 y.s, .int .i64 y.o] 24))
  have hg := h.1
  have c0 := box1 h
  clear h
  unfold wv at *
  go_enter Try.func25, Try.ntmps25
  go_wp2
  go_ret
  exact ⟨rfl, HB.out⟩
end Go.Proofs.Ytncaohdnbibkfaa.Timer
