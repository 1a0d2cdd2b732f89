/-
  Parcels and nets in memory: as values and in blocks of their own. Contracts of single ones: isNumber, mayBe, the law's own in and may; parcels compared.
-/
import Derived.Test.YtkfjhfneagjejaaNRow
import Derived.Laws.StructEq
namespace Go.Proofs.Ytkfjhfneagjejaa.Net
open Go.ChangeShapes Go.WideShapes Go.ChangeAt Go.RowKit Go.Shelf Go.Lib
open Go.Proofs.Ytkfjhfneagjejaa.Queue (Box al dr below_trans ret_bool BoolB)

theorem two_al (w : World) (o p : Obj) : Below w.heap.size w ((w.alloc o).alloc p) := below_trans (al w o) (al _ p)
/-- A parcel's cells; a net as a value, and its cells. -/
def ncs (x : Pc) : List Value := [.int .i64 x.n, .bool x.b, .int .i64 x.y, .int .i64 x.k, .int .i64 x.o, .bool x.s]
def tv (v : Value) (t : Int) : Value := .agg #[v, .int .i64 t]
def tcs (v : Value) (t : Int) : List Value := [v, .int .i64 t]
theorem box2 {b : Nat} {c0 c1 : Value} {w : World} (h : Box b [c0, c1] w) : w.cell? ⟨b, 0, none⟩ = some c0 ∧ w.cell? ⟨b, 1, none⟩ = some c1 := ⟨(h.2 0 _ rfl).1, (h.2 1 _ rfl).1⟩
theorem frz2 {b : Nat} {c0 c1 : Value} {w : World} (h : Box b [c0, c1] w) : w.frozen? ⟨b, 0, none⟩ = false ∧ w.frozen? ⟨b, 1, none⟩ = false := ⟨(h.2 0 _ rfl).2, (h.2 1 _ rfl).2⟩
theorem box6 {b : Nat} {c0 c1 c2 c3 c4 c5 : Value} {w : World} (h : Box b [c0, c1, c2, c3, c4, c5] w) : w.cell? ⟨b, 0, none⟩ = some c0 ∧ w.cell? ⟨b, 1, none⟩ = some c1 ∧ w.cell? ⟨b, 2, none⟩ = some c2 ∧ w.cell? ⟨b, 3, none⟩ = some c3 ∧ w.cell? ⟨b, 4, none⟩ = some c4 ∧ w.cell? ⟨b, 5, none⟩ = some c5 := ⟨(h.2 0 _ rfl).1, (h.2 1 _ rfl).1, (h.2 2 _ rfl).1, (h.2 3 _ rfl).1, (h.2 4 _ rfl).1, (h.2 5 _ rfl).1⟩
theorem frz6 {b : Nat} {c0 c1 c2 c3 c4 c5 : Value} {w : World} (h : Box b [c0, c1, c2, c3, c4, c5] w) : w.frozen? ⟨b, 0, none⟩ = false ∧ w.frozen? ⟨b, 1, none⟩ = false ∧ w.frozen? ⟨b, 2, none⟩ = false ∧ w.frozen? ⟨b, 3, none⟩ = false ∧ w.frozen? ⟨b, 4, none⟩ = false ∧ w.frozen? ⟨b, 5, none⟩ = false := ⟨(h.2 0 _ rfl).2, (h.2 1 _ rfl).2, (h.2 2 _ rfl).2, (h.2 3 _ rfl).2, (h.2 4 _ rfl).2, (h.2 5 _ rfl).2⟩
theorem two_boxes (w : World) (us vs : List Value) (T T' : TypeId) : Box w.heap.size us ((w.alloc (.cells us.toArray T)).alloc (.cells vs.toArray T')) ∧ Box (w.heap.size + 1) vs ((w.alloc (.cells us.toArray T)).alloc (.cells vs.toArray T')) := by
  refine ⟨(Box.made w us T).below (al _ _), ?_⟩
  have := Box.made (w.alloc (.cells us.toArray T)) vs T'
  simpa only [World.size_alloc] using this
theorem mayB_eq (n y k o : Int) (b s : Bool) : mayB ⟨n, b, y, k, o, s⟩ = (decide (numP y) && (decide (numP o) && (decide (1 ≤ k) && (decide (k ≤ 3) && (!s || (b && decide (k = 3))))))) := by
  rw [Bool.eq_iff_iff, mayB_t]
  unfold MayP
  simp only [Bool.and_eq_true, Bool.or_eq_true, Bool.not_eq_true', decide_eq_true_eq]
  constructor
  · rintro ⟨h1, h2, h3, h4, h5⟩
    refine ⟨h2, h3, h4, h5, ?_⟩
    cases s
    · exact .inl rfl
    · exact .inr (h1 rfl)
  · rintro ⟨h2, h3, h4, h5, h1⟩
    refine ⟨fun hs => ?_, h2, h3, h4, h5⟩
    rcases h1 with h1 | h1
    · rw [h1] at hs; cases hs
    · exact h1

theorem number_any (n : Int) (w : World) : Calls Try.prog 21 #[.int .i64 n] w (fun e w' => e = .returned (.bool (decide (numP n))) ∧ w = w') := by
  by_cases h1 : 1 ≤ n
  · by_cases h2 : n ≤ 1099511627776
    · rw [decide_eq_true (show numP n from ⟨h1, h2⟩)]
      go_enter Try.func21, Try.ntmps21
      go_wp2
      go_ret
      exact ⟨rfl, rfl⟩
    · rw [decide_eq_false (show ¬ numP n from fun h => h2 h.2)]
      go_enter Try.func21, Try.ntmps21
      go_wp2
      go_ret
      exact ⟨rfl, rfl⟩
  · rw [decide_eq_false (show ¬ numP n from fun h => h1 h.1)]
    go_enter Try.func21, Try.ntmps21
    go_wp2
    go_ret
    exact ⟨rfl, rfl⟩
theorem in_any (n : Int) (w : World) : Calls Try.prog 20 #[.int .i64 n] w (fun e w' => e = .returned (.bool (decide (numP n))) ∧ w = w') := by
  by_cases h1 : n ≥ 1
  · by_cases h2 : n ≤ 1099511627776
    · rw [decide_eq_true (show numP n from ⟨h1, h2⟩)]
      go_enter Try.func20, Try.ntmps20
      go_wp2
      go_ret
      exact ⟨rfl, rfl⟩
    · rw [decide_eq_false (show ¬ numP n from fun h => h2 h.2)]
      go_enter Try.func20, Try.ntmps20
      go_wp2
      go_ret
      exact ⟨rfl, rfl⟩
  · rw [decide_eq_false (show ¬ numP n from fun h => h1 h.1)]
    go_enter Try.func20, Try.ntmps20
    go_wp2
    go_ret
    exact ⟨rfl, rfl⟩
set_option maxRecDepth 100000 in
set_option maxHeartbeats 1000000 in
theorem mayBe_any (x : Pc) (w : World) : Calls Try.prog 16 #[nv x] w (BoolB (mayB x) w) := by
  obtain ⟨n, b, y, k, o, s⟩ := x
  have HB := Lib.hid (al w (.cells #[.int .i64 n, .bool b, .int .i64 y, .int .i64 k, .int .i64 o, .bool s] 26))
  have H1 := Lib.hid (number_any y)
  have H3 := Lib.hid (number_any o)
  unfold nv
  cases b
  · by_cases c1 : numP y
    · by_cases c2 : numP o
      · by_cases c3 : 1 ≤ k
        · by_cases c4 : k ≤ 3
          · cases s
            · rw [show mayB ⟨n, false, y, k, o, false⟩ = true from by rw [mayB_eq]; simp [c1, c2, c3, c4]]
              rw [decide_eq_true c1] at H1
              rw [decide_eq_true c2] at H3
              clear c1 c2
              dsimp only
              go_enter Try.func16, Try.ntmps16
              go_wp2_with (first
                | (go_at_call 21; (with_reducible refine (H1.out _).mono ?_); rintro e w' ⟨rfl, rfl⟩)
                | (go_at_call 21; (with_reducible refine (H3.out _).mono ?_); rintro e w' ⟨rfl, rfl⟩))
              go_ret
              exact ⟨rfl, HB.out⟩
            · rw [show mayB ⟨n, false, y, k, o, true⟩ = false from by rw [mayB_eq]; simp [c1, c2, c3, c4]]
              rw [decide_eq_true c1] at H1
              rw [decide_eq_true c2] at H3
              clear c1 c2
              dsimp only
              go_enter Try.func16, Try.ntmps16
              go_wp2_with (first
                | (go_at_call 21; (with_reducible refine (H1.out _).mono ?_); rintro e w' ⟨rfl, rfl⟩)
                | (go_at_call 21; (with_reducible refine (H3.out _).mono ?_); rintro e w' ⟨rfl, rfl⟩))
              go_ret
              exact ⟨rfl, HB.out⟩
          · cases s
            · rw [show mayB ⟨n, false, y, k, o, false⟩ = false from by rw [mayB_eq]; simp [c4]]
              rw [decide_eq_true c1] at H1
              rw [decide_eq_true c2] at H3
              clear c1 c2
              dsimp only
              go_enter Try.func16, Try.ntmps16
              go_wp2_with (first
                | (go_at_call 21; (with_reducible refine (H1.out _).mono ?_); rintro e w' ⟨rfl, rfl⟩)
                | (go_at_call 21; (with_reducible refine (H3.out _).mono ?_); rintro e w' ⟨rfl, rfl⟩))
              go_ret
              exact ⟨rfl, HB.out⟩
            · rw [show mayB ⟨n, false, y, k, o, true⟩ = false from by rw [mayB_eq]; simp [c4]]
              rw [decide_eq_true c1] at H1
              rw [decide_eq_true c2] at H3
              clear c1 c2
              dsimp only
              go_enter Try.func16, Try.ntmps16
              go_wp2_with (first
                | (go_at_call 21; (with_reducible refine (H1.out _).mono ?_); rintro e w' ⟨rfl, rfl⟩)
                | (go_at_call 21; (with_reducible refine (H3.out _).mono ?_); rintro e w' ⟨rfl, rfl⟩))
              go_ret
              exact ⟨rfl, HB.out⟩
        · cases s
          · rw [show mayB ⟨n, false, y, k, o, false⟩ = false from by rw [mayB_eq]; simp [c3]]
            rw [decide_eq_true c1] at H1
            rw [decide_eq_true c2] at H3
            clear c1 c2
            dsimp only
            go_enter Try.func16, Try.ntmps16
            go_wp2_with (first
              | (go_at_call 21; (with_reducible refine (H1.out _).mono ?_); rintro e w' ⟨rfl, rfl⟩)
              | (go_at_call 21; (with_reducible refine (H3.out _).mono ?_); rintro e w' ⟨rfl, rfl⟩))
            go_ret
            exact ⟨rfl, HB.out⟩
          · rw [show mayB ⟨n, false, y, k, o, true⟩ = false from by rw [mayB_eq]; simp [c3]]
            rw [decide_eq_true c1] at H1
            rw [decide_eq_true c2] at H3
            clear c1 c2
            dsimp only
            go_enter Try.func16, Try.ntmps16
            go_wp2_with (first
              | (go_at_call 21; (with_reducible refine (H1.out _).mono ?_); rintro e w' ⟨rfl, rfl⟩)
              | (go_at_call 21; (with_reducible refine (H3.out _).mono ?_); rintro e w' ⟨rfl, rfl⟩))
            go_ret
            exact ⟨rfl, HB.out⟩
      · rw [show mayB ⟨n, false, y, k, o, s⟩ = false from by rw [mayB_eq]; simp [c2]]
        rw [decide_eq_true c1] at H1
        rw [decide_eq_false c2] at H3
        clear c1 c2
        dsimp only
        go_enter Try.func16, Try.ntmps16
        go_wp2_with (first
          | (go_at_call 21; (with_reducible refine (H1.out _).mono ?_); rintro e w' ⟨rfl, rfl⟩)
          | (go_at_call 21; (with_reducible refine (H3.out _).mono ?_); rintro e w' ⟨rfl, rfl⟩))
        go_ret
        exact ⟨rfl, HB.out⟩
    · rw [show mayB ⟨n, false, y, k, o, s⟩ = false from by rw [mayB_eq]; simp [c1]]
      rw [decide_eq_false c1] at H1
      clear c1
      dsimp only
      go_enter Try.func16, Try.ntmps16
      go_wp2_with (first
        | (go_at_call 21; (with_reducible refine (H1.out _).mono ?_); rintro e w' ⟨rfl, rfl⟩)
        | (go_at_call 21; (with_reducible refine (H3.out _).mono ?_); rintro e w' ⟨rfl, rfl⟩))
      go_ret
      exact ⟨rfl, HB.out⟩
  · by_cases hk : k = 3
    · subst hk
      by_cases c1 : numP y
      · by_cases c2 : numP o
        · cases s
          · rw [show mayB ⟨n, true, y, 3, o, false⟩ = true from by rw [mayB_eq]; simp [c1, c2]]
            rw [decide_eq_true c1] at H1
            rw [decide_eq_true c2] at H3
            clear c1 c2
            dsimp only
            go_enter Try.func16, Try.ntmps16
            go_wp2_with (first
              | (go_at_call 21; (with_reducible refine (H1.out _).mono ?_); rintro e w' ⟨rfl, rfl⟩)
              | (go_at_call 21; (with_reducible refine (H3.out _).mono ?_); rintro e w' ⟨rfl, rfl⟩))
            go_ret
            exact ⟨rfl, HB.out⟩
          · rw [show mayB ⟨n, true, y, 3, o, true⟩ = true from by rw [mayB_eq]; simp [c1, c2]]
            rw [decide_eq_true c1] at H1
            rw [decide_eq_true c2] at H3
            clear c1 c2
            dsimp only
            go_enter Try.func16, Try.ntmps16
            go_wp2_with (first
              | (go_at_call 21; (with_reducible refine (H1.out _).mono ?_); rintro e w' ⟨rfl, rfl⟩)
              | (go_at_call 21; (with_reducible refine (H3.out _).mono ?_); rintro e w' ⟨rfl, rfl⟩))
            go_ret
            exact ⟨rfl, HB.out⟩
        · rw [show mayB ⟨n, true, y, 3, o, s⟩ = false from by rw [mayB_eq]; simp [c2]]
          rw [decide_eq_true c1] at H1
          rw [decide_eq_false c2] at H3
          clear c1 c2
          dsimp only
          go_enter Try.func16, Try.ntmps16
          go_wp2_with (first
            | (go_at_call 21; (with_reducible refine (H1.out _).mono ?_); rintro e w' ⟨rfl, rfl⟩)
            | (go_at_call 21; (with_reducible refine (H3.out _).mono ?_); rintro e w' ⟨rfl, rfl⟩))
          go_ret
          exact ⟨rfl, HB.out⟩
      · rw [show mayB ⟨n, true, y, 3, o, s⟩ = false from by rw [mayB_eq]; simp [c1]]
        rw [decide_eq_false c1] at H1
        clear c1
        dsimp only
        go_enter Try.func16, Try.ntmps16
        go_wp2_with (first
          | (go_at_call 21; (with_reducible refine (H1.out _).mono ?_); rintro e w' ⟨rfl, rfl⟩)
          | (go_at_call 21; (with_reducible refine (H3.out _).mono ?_); rintro e w' ⟨rfl, rfl⟩))
        go_ret
        exact ⟨rfl, HB.out⟩
    · have hk2 : (k == 3) = false := by simpa using hk
      by_cases c1 : numP y
      · by_cases c2 : numP o
        · by_cases c3 : 1 ≤ k
          · by_cases c4 : k ≤ 3
            · cases s
              · rw [show mayB ⟨n, true, y, k, o, false⟩ = true from by rw [mayB_eq]; simp [c1, c2, c3, c4, hk]]
                rw [decide_eq_true c1] at H1
                rw [decide_eq_true c2] at H3
                clear c1 c2
                dsimp only
                go_enter Try.func16, Try.ntmps16
                go_wp2_with (first
                  | (go_at_call 21; (with_reducible refine (H1.out _).mono ?_); rintro e w' ⟨rfl, rfl⟩)
                  | (go_at_call 21; (with_reducible refine (H3.out _).mono ?_); rintro e w' ⟨rfl, rfl⟩))
                go_ret
                exact ⟨rfl, HB.out⟩
              · rw [show mayB ⟨n, true, y, k, o, true⟩ = false from by rw [mayB_eq]; simp [c1, c2, c3, c4, hk]]
                rw [decide_eq_true c1] at H1
                rw [decide_eq_true c2] at H3
                clear c1 c2
                dsimp only
                go_enter Try.func16, Try.ntmps16
                go_wp2_with (first
                  | (go_at_call 21; (with_reducible refine (H1.out _).mono ?_); rintro e w' ⟨rfl, rfl⟩)
                  | (go_at_call 21; (with_reducible refine (H3.out _).mono ?_); rintro e w' ⟨rfl, rfl⟩))
                go_ret
                exact ⟨rfl, HB.out⟩
            · cases s
              · rw [show mayB ⟨n, true, y, k, o, false⟩ = false from by rw [mayB_eq]; simp [c4]]
                rw [decide_eq_true c1] at H1
                rw [decide_eq_true c2] at H3
                clear c1 c2
                dsimp only
                go_enter Try.func16, Try.ntmps16
                go_wp2_with (first
                  | (go_at_call 21; (with_reducible refine (H1.out _).mono ?_); rintro e w' ⟨rfl, rfl⟩)
                  | (go_at_call 21; (with_reducible refine (H3.out _).mono ?_); rintro e w' ⟨rfl, rfl⟩))
                go_ret
                exact ⟨rfl, HB.out⟩
              · rw [show mayB ⟨n, true, y, k, o, true⟩ = false from by rw [mayB_eq]; simp [c4]]
                rw [decide_eq_true c1] at H1
                rw [decide_eq_true c2] at H3
                clear c1 c2
                dsimp only
                go_enter Try.func16, Try.ntmps16
                go_wp2_with (first
                  | (go_at_call 21; (with_reducible refine (H1.out _).mono ?_); rintro e w' ⟨rfl, rfl⟩)
                  | (go_at_call 21; (with_reducible refine (H3.out _).mono ?_); rintro e w' ⟨rfl, rfl⟩))
                go_ret
                exact ⟨rfl, HB.out⟩
          · cases s
            · rw [show mayB ⟨n, true, y, k, o, false⟩ = false from by rw [mayB_eq]; simp [c3]]
              rw [decide_eq_true c1] at H1
              rw [decide_eq_true c2] at H3
              clear c1 c2
              dsimp only
              go_enter Try.func16, Try.ntmps16
              go_wp2_with (first
                | (go_at_call 21; (with_reducible refine (H1.out _).mono ?_); rintro e w' ⟨rfl, rfl⟩)
                | (go_at_call 21; (with_reducible refine (H3.out _).mono ?_); rintro e w' ⟨rfl, rfl⟩))
              go_ret
              exact ⟨rfl, HB.out⟩
            · rw [show mayB ⟨n, true, y, k, o, true⟩ = false from by rw [mayB_eq]; simp [c3]]
              rw [decide_eq_true c1] at H1
              rw [decide_eq_true c2] at H3
              clear c1 c2
              dsimp only
              go_enter Try.func16, Try.ntmps16
              go_wp2_with (first
                | (go_at_call 21; (with_reducible refine (H1.out _).mono ?_); rintro e w' ⟨rfl, rfl⟩)
                | (go_at_call 21; (with_reducible refine (H3.out _).mono ?_); rintro e w' ⟨rfl, rfl⟩))
              go_ret
              exact ⟨rfl, HB.out⟩
        · rw [show mayB ⟨n, true, y, k, o, s⟩ = false from by rw [mayB_eq]; simp [c2]]
          rw [decide_eq_true c1] at H1
          rw [decide_eq_false c2] at H3
          clear c1 c2
          dsimp only
          go_enter Try.func16, Try.ntmps16
          go_wp2_with (first
            | (go_at_call 21; (with_reducible refine (H1.out _).mono ?_); rintro e w' ⟨rfl, rfl⟩)
            | (go_at_call 21; (with_reducible refine (H3.out _).mono ?_); rintro e w' ⟨rfl, rfl⟩))
          go_ret
          exact ⟨rfl, HB.out⟩
      · rw [show mayB ⟨n, true, y, k, o, s⟩ = false from by rw [mayB_eq]; simp [c1]]
        rw [decide_eq_false c1] at H1
        clear c1
        dsimp only
        go_enter Try.func16, Try.ntmps16
        go_wp2_with (first
          | (go_at_call 21; (with_reducible refine (H1.out _).mono ?_); rintro e w' ⟨rfl, rfl⟩)
          | (go_at_call 21; (with_reducible refine (H3.out _).mono ?_); rintro e w' ⟨rfl, rfl⟩))
        go_ret
        exact ⟨rfl, HB.out⟩

set_option maxRecDepth 100000 in
set_option maxHeartbeats 1000000 in
theorem may_any (x : Pc) (w : World) : Calls Try.prog 14 #[nv x] w (BoolB (mayB x) w) := by
  obtain ⟨n, b, y, k, o, s⟩ := x
  have HB := Lib.hid (al w (.cells #[.int .i64 n, .bool b, .int .i64 y, .int .i64 k, .int .i64 o, .bool s] 26))
  have H1 := Lib.hid (in_any y)
  have H3 := Lib.hid (in_any o)
  unfold nv
  cases s
  · by_cases c1 : numP y
    · by_cases c2 : numP o
      · by_cases c3 : k ≥ 1
        · by_cases c4 : k ≤ 3
          · rw [show mayB ⟨n, b, y, k, o, false⟩ = true from by rw [mayB_eq]; simp [c1, c2, show 1 ≤ k from c3, c4]]
            rw [decide_eq_true c1] at H1
            rw [decide_eq_true c2] at H3
            clear c1 c2
            dsimp only
            go_enter Try.func14, Try.ntmps14
            go_wp2_with (first
              | (go_at_call 20; (with_reducible refine (H1.out _).mono ?_); rintro e w' ⟨rfl, rfl⟩)
              | (go_at_call 20; (with_reducible refine (H3.out _).mono ?_); rintro e w' ⟨rfl, rfl⟩))
            go_ret
            exact ⟨rfl, HB.out⟩
          · rw [show mayB ⟨n, b, y, k, o, false⟩ = false from by rw [mayB_eq]; simp [c4]]
            rw [decide_eq_true c1] at H1
            rw [decide_eq_true c2] at H3
            clear c1 c2
            dsimp only
            go_enter Try.func14, Try.ntmps14
            go_wp2_with (first
              | (go_at_call 20; (with_reducible refine (H1.out _).mono ?_); rintro e w' ⟨rfl, rfl⟩)
              | (go_at_call 20; (with_reducible refine (H3.out _).mono ?_); rintro e w' ⟨rfl, rfl⟩))
            go_ret
            exact ⟨ret_bool (decide_eq_false (by omega)), HB.out⟩
        · rw [show mayB ⟨n, b, y, k, o, false⟩ = false from by rw [mayB_eq]; simp [show ¬ 1 ≤ k from c3]]
          rw [decide_eq_true c1] at H1
          rw [decide_eq_true c2] at H3
          clear c1 c2
          dsimp only
          go_enter Try.func14, Try.ntmps14
          go_wp2_with (first
            | (go_at_call 20; (with_reducible refine (H1.out _).mono ?_); rintro e w' ⟨rfl, rfl⟩)
            | (go_at_call 20; (with_reducible refine (H3.out _).mono ?_); rintro e w' ⟨rfl, rfl⟩))
          go_ret
          exact ⟨rfl, HB.out⟩
      · rw [show mayB ⟨n, b, y, k, o, false⟩ = false from by rw [mayB_eq]; simp [c2]]
        rw [decide_eq_true c1] at H1
        rw [decide_eq_false c2] at H3
        clear c1 c2
        dsimp only
        go_enter Try.func14, Try.ntmps14
        go_wp2_with (first
          | (go_at_call 20; (with_reducible refine (H1.out _).mono ?_); rintro e w' ⟨rfl, rfl⟩)
          | (go_at_call 20; (with_reducible refine (H3.out _).mono ?_); rintro e w' ⟨rfl, rfl⟩))
        go_ret
        exact ⟨rfl, HB.out⟩
    · rw [show mayB ⟨n, b, y, k, o, false⟩ = false from by rw [mayB_eq]; simp [c1]]
      rw [decide_eq_false c1] at H1
      clear c1
      dsimp only
      go_enter Try.func14, Try.ntmps14
      go_wp2_with (first
        | (go_at_call 20; (with_reducible refine (H1.out _).mono ?_); rintro e w' ⟨rfl, rfl⟩)
        | (go_at_call 20; (with_reducible refine (H3.out _).mono ?_); rintro e w' ⟨rfl, rfl⟩))
      go_ret
      exact ⟨rfl, HB.out⟩
  · cases b
    · rw [show mayB ⟨n, false, y, k, o, true⟩ = false from by rw [mayB_eq]; simp]
      dsimp only
      go_enter Try.func14, Try.ntmps14
      go_wp2_with (first
        | (go_at_call 20; (with_reducible refine (H1.out _).mono ?_); rintro e w' ⟨rfl, rfl⟩)
        | (go_at_call 20; (with_reducible refine (H3.out _).mono ?_); rintro e w' ⟨rfl, rfl⟩))
      go_ret
      exact ⟨rfl, HB.out⟩
    · by_cases hk : k = 3
      · subst hk
        by_cases c1 : numP y
        · by_cases c2 : numP o
          · rw [show mayB ⟨n, true, y, 3, o, true⟩ = true from by rw [mayB_eq]; simp [c1, c2]]
            rw [decide_eq_true c1] at H1
            rw [decide_eq_true c2] at H3
            clear c1 c2
            dsimp only
            go_enter Try.func14, Try.ntmps14
            go_wp2_with (first
              | (go_at_call 20; (with_reducible refine (H1.out _).mono ?_); rintro e w' ⟨rfl, rfl⟩)
              | (go_at_call 20; (with_reducible refine (H3.out _).mono ?_); rintro e w' ⟨rfl, rfl⟩))
            go_ret
            exact ⟨rfl, HB.out⟩
          · rw [show mayB ⟨n, true, y, 3, o, true⟩ = false from by rw [mayB_eq]; simp [c2]]
            rw [decide_eq_true c1] at H1
            rw [decide_eq_false c2] at H3
            clear c1 c2
            dsimp only
            go_enter Try.func14, Try.ntmps14
            go_wp2_with (first
              | (go_at_call 20; (with_reducible refine (H1.out _).mono ?_); rintro e w' ⟨rfl, rfl⟩)
              | (go_at_call 20; (with_reducible refine (H3.out _).mono ?_); rintro e w' ⟨rfl, rfl⟩))
            go_ret
            exact ⟨rfl, HB.out⟩
        · rw [show mayB ⟨n, true, y, 3, o, true⟩ = false from by rw [mayB_eq]; simp [c1]]
          rw [decide_eq_false c1] at H1
          clear c1
          dsimp only
          go_enter Try.func14, Try.ntmps14
          go_wp2_with (first
            | (go_at_call 20; (with_reducible refine (H1.out _).mono ?_); rintro e w' ⟨rfl, rfl⟩)
            | (go_at_call 20; (with_reducible refine (H3.out _).mono ?_); rintro e w' ⟨rfl, rfl⟩))
          go_ret
          exact ⟨rfl, HB.out⟩
      · have hk2 : (k != 3) = true := by simpa using hk
        rw [show mayB ⟨n, true, y, k, o, true⟩ = false from by rw [mayB_eq]; simp [hk]]
        dsimp only
        go_enter Try.func14, Try.ntmps14
        go_wp2_with (first
          | (go_at_call 20; (with_reducible refine (H1.out _).mono ?_); rintro e w' ⟨rfl, rfl⟩)
          | (go_at_call 20; (with_reducible refine (H3.out _).mono ?_); rintro e w' ⟨rfl, rfl⟩))
        go_ret
        exact ⟨rfl, HB.out⟩

theorem equal_pc (x y : Pc) (w : World) : (Op.equalIn 10000 26 (nv x) (nv y)).run Try.prog w = .ok (decide (x = y)) w := by
  have h : decide (x = y) = (x.n == y.n && (x.b == y.b && (x.y == y.y && (x.k == y.k && (x.o == y.o && x.s == y.s))))) := by
    by_cases e : x = y
    · subst e; simp
    · rw [decide_eq_false e]
      symm
      rw [Bool.eq_false_iff]
      intro hc
      simp only [Bool.and_eq_true, beq_iff_eq] at hc
      exact e (Pc.same hc.1 hc.2.1 hc.2.2.1 hc.2.2.2.1 hc.2.2.2.2.1 hc.2.2.2.2.2)
  rw [h]
  unfold nv
  simp [go_sem]
  (repeat' split) <;> simp_all
theorem neq_pc (x y : Pc) (w : World) : (binOp .neq 26 (.agg #[.int .i64 x.n, .bool x.b, .int .i64 x.y, .int .i64 x.k, .int .i64 x.o, .bool x.s]) (.agg #[.int .i64 y.n, .bool y.b, .int .i64 y.y, .int .i64 y.k, .int .i64 y.o, .bool y.s])).run Try.prog w = .ok (.bool (!decide (x = y))) w := by
  have h := equal_pc x y w
  unfold nv at *
  rw [run_neq_struct, h]
  rfl
theorem eql_pc (x y : Pc) (w : World) : (binOp .eql 26 (.agg #[.int .i64 x.n, .bool x.b, .int .i64 x.y, .int .i64 x.k, .int .i64 x.o, .bool x.s]) (.agg #[.int .i64 y.n, .bool y.b, .int .i64 y.y, .int .i64 y.k, .int .i64 y.o, .bool y.s])).run Try.prog w = .ok (.bool (decide (x = y))) w := by
  have h := equal_pc x y w
  unfold nv at *
  rw [run_eql_struct, h]
  rfl
end Go.Proofs.Ytkfjhfneagjejaa.Net
