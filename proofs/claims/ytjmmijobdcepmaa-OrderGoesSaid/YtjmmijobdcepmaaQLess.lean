/-
  Contracts of package queue: Or, Less, oneMayBe, and its negation as a function value.
-/
import Derived.Test.YtjmmijobdcepmaaQRow
namespace Go.Proofs.Ytjmmijobdcepmaa.Queue
open Go.ChangeShapes Go.WideShapes Go.ChangeAt Go.RowKit

def OrR (x y z : Int) (k : Nat) : Prop := (1 ≤ k → x = 0) ∧ (2 ≤ k → y = 0) ∧ (3 ≤ k → z = 0)
set_option maxRecDepth 100000 in
theorem Or_any {g cap : Nat} {x y z : Int} {w : World} (h : Box g [.int .i64 x, .int .i64 y, .int .i64 z] w) : Calls Try.prog 91 #[.slice (some ⟨g, 0, none⟩) 3 cap] w fun e w' => e = .returned (.int .i64 (orZ x y z)) ∧ w = w' := by
  obtain ⟨c0, c1, c2⟩ := h.c3
  clear h
  go_enter Try.func91, Try.ntmps91
  go_wp2
  go_loop [5, 8] (fun _ i => ∃ k : Nat, k ≤ 3 ∧ i = .int .i64 k ∧ OrR x y z k) (fun _ i => 3 - (Go.RowKit.intOf i).toNat)
  case atStart => exact ⟨0, by omega, rfl, ⟨by omega, by omega, by omega⟩⟩
  case round =>
    obtain ⟨k, hk, rfl, h0⟩ := hrel
    have HH := Lib.hid h0
    clear h0
    rcases (by omega : k = 0 ∨ k = 1 ∨ k = 2 ∨ k = 3) with rfl | rfl | rfl | rfl
    · by_cases hx : x = 0
      · subst hx
        go_wp2
        go_round
        case rel => exact ⟨1, by omega, rfl, ⟨fun _ => rfl, by omega, by omega⟩⟩
        case measure => simp [Go.RowKit.intOf]
      · have HE : Hid (orZ x y z = x) := Lib.hid (if_pos hx)
        have hx1 : (x == 0) = false := by simpa using hx
        have hx2 : (x != 0) = true := by simpa using hx
        clear hx
        go_wp2
        go_ret
        exact ⟨ret_int HE.out.symm, rfl⟩
    · have hx0 := HH.out.1 (by omega)
      by_cases hx : y = 0
      · subst hx
        clear hx0
        go_wp2
        go_round
        case rel => exact ⟨2, by omega, rfl, ⟨fun _ => HH.out.1 (by omega), fun _ => rfl, by omega⟩⟩
        case measure => simp [Go.RowKit.intOf]
      · have HE : Hid (orZ x y z = y) := Lib.hid (by unfold orZ; rw [if_neg (by simp [hx0]), if_pos hx])
        have hx1 : (y == 0) = false := by simpa using hx
        have hx2 : (y != 0) = true := by simpa using hx
        clear hx hx0
        go_wp2
        go_ret
        exact ⟨ret_int HE.out.symm, rfl⟩
    · have hx0 := HH.out.1 (by omega)
      have hy0 := HH.out.2.1 (by omega)
      by_cases hx : z = 0
      · subst hx
        clear hx0 hy0
        go_wp2
        go_round
        case rel => exact ⟨3, by omega, rfl, ⟨fun _ => HH.out.1 (by omega), fun _ => HH.out.2.1 (by omega), fun _ => rfl⟩⟩
        case measure => simp [Go.RowKit.intOf]
      · have HE : Hid (orZ x y z = z) := Lib.hid (by unfold orZ; rw [if_neg (by simp [hx0]), if_neg (by simp [hy0])])
        have hx1 : (z == 0) = false := by simpa using hx
        have hx2 : (z != 0) = true := by simpa using hx
        clear hx hx0 hy0
        go_wp2
        go_ret
        exact ⟨ret_int HE.out.symm, rfl⟩
    · have HE : Hid (orZ x y z = 0) := Lib.hid (by unfold orZ; rw [if_neg (by simp [HH.out.1 (by omega)]), if_neg (by simp [HH.out.2.1 (by omega)])]; exact HH.out.2.2 (by omega))
      go_wp2
      go_ret
      exact ⟨ret_int HE.out.symm, rfl⟩

set_option maxRecDepth 100000 in
set_option maxHeartbeats 1000000 in
theorem Less_any (a b : Wt) (w : World) : Calls Try.prog 118 #[wv a, wv b] w (BoolB (ltB a b) w) := by
  have HL := Lib.hid (orZ_lt a b)
  have h1 := Box.made w [.int .i64 a.c, .int .i64 a.s, .int .i64 a.o] 60
  have HB1 := Lib.hid (h1.below (al _ (.cells #[.int .i64 b.c, .int .i64 b.s, .int .i64 b.o] 60)))
  have h2 := Box.made (w.alloc (.cells #[.int .i64 a.c, .int .i64 a.s, .int .i64 a.o] 60)) [.int .i64 b.c, .int .i64 b.s, .int .i64 b.o] 60
  simp only [World.size_alloc] at h2
  have HB2 := Lib.hid h2
  have HBW := Lib.hid (below_trans (al w (.cells #[.int .i64 a.c, .int .i64 a.s, .int .i64 a.o] 60)) (al _ (.cells #[.int .i64 b.c, .int .i64 b.s, .int .i64 b.o] 60)))
  obtain ⟨l0, u0⟩ := cmpZ_bd a.c b.c
  obtain ⟨l1, u1⟩ := cmpZ_bd a.s b.s
  obtain ⟨l2, u2⟩ := cmpZ_bd a.o b.o
  obtain ⟨k0, e0⟩ : ∃ k, cmpZ a.c b.c = k := ⟨_, rfl⟩
  obtain ⟨k1, e1⟩ : ∃ k, cmpZ a.s b.s = k := ⟨_, rfl⟩
  obtain ⟨k2, e2⟩ : ∃ k, cmpZ a.o b.o = k := ⟨_, rfl⟩
  have HC0 := Lib.hid (fun W => e0 ▸ Compare_any a.c b.c W)
  have HC1 := Lib.hid (fun W => e1 ▸ Compare_any a.s b.s W)
  have HC2 := Lib.hid (fun W => e2 ▸ Compare_any a.o b.o W)
  rw [e0, e1, e2] at HL
  clear h1 h2 e0 e1 e2 l0 u0 l1 u1 l2 u2
  unfold wv
  go_enter Try.func118, Try.ntmps118
  go_upto_region 1 with (fail)
  generalize hW : (w.alloc (.cells #[.int .i64 a.c, .int .i64 a.s, .int .i64 a.o] 60)).alloc (.cells #[.int .i64 b.c, .int .i64 b.s, .int .i64 b.o] 60) = W at HB1 HB2 HBW ⊢
  clear hW
  obtain ⟨c0, c1, c2⟩ := HB1.out.c3
  obtain ⟨d0, d1, d2⟩ := HB2.out.c3
  have hs1 := HB1.out.1
  have hs2 := HB2.out.1
  go_region_held3 (fun w' => w'.cell? ⟨w.heap.size, 0, none⟩ = some (.int .i64 a.c) ∧ w'.cell? ⟨w.heap.size, 1, none⟩ = some (.int .i64 a.s) ∧ w'.cell? ⟨w.heap.size, 2, none⟩ = some (.int .i64 a.o) ∧ w'.cell? ⟨w.heap.size + 1, 0, none⟩ = some (.int .i64 b.c) ∧ w'.cell? ⟨w.heap.size + 1, 1, none⟩ = some (.int .i64 b.s) ∧ w'.cell? ⟨w.heap.size + 1, 2, none⟩ = some (.int .i64 b.o)) (go_keep)
    (first
      | (go_at_call 93; (with_reducible refine (HC0.out _).mono ?_); rintro e w' ⟨rfl, rfl⟩)
      | (go_at_call 93; (with_reducible refine (HC1.out _).mono ?_); rintro e w' ⟨rfl, rfl⟩)
      | (go_at_call 93; (with_reducible refine (HC2.out _).mono ?_); rintro e w' ⟨rfl, rfl⟩)
      | (go_at_call 91; refine (Or_any (x := k0) (y := k1) (z := k2) ((Box.made W [.int .i64 k0, .int .i64 k1, .int .i64 k2] 3).below (dr _))).mono ?_; rintro e w' ⟨rfl, rfl⟩)
      | fail)
  go_wp2_with fail
  go_ret
  exact ⟨ret_bool (decide_eq_decide.2 HL.out), below_trans (below_trans HBW.out (al W (.cells #[.int .i64 k0, .int .i64 k1, .int .i64 k2] 3))) (dr _)⟩

/-- May a wait be? -/
def mayP (x : Wt) : Prop := 0 ≤ x.c ∧ x.c ≤ 3 ∧ 1 ≤ x.s ∧ x.s ≤ 1099511627776 ∧ 1 ≤ x.o ∧ x.o ≤ 1099511627776
instance (x : Wt) : Decidable (mayP x) := by unfold mayP; exact inferInstance
def mayB (x : Wt) : Bool := decide (mayP x)
theorem mayB_t {x : Wt} : mayB x = true ↔ mayP x := by unfold mayB; exact decide_eq_true_iff
theorem mayB_f {x : Wt} : mayB x = false ↔ ¬ mayP x := by unfold mayB; exact decide_eq_false_iff_not
set_option maxRecDepth 100000 in
set_option maxHeartbeats 1000000 in
theorem oneMayBe_any (x : Wt) (w : World) : Calls Try.prog 72 #[wv x] w (BoolB (mayB x) w) := by
  have HP := Lib.hid (mayB_t (x := x))
  have HF := Lib.hid (mayB_f (x := x))
  generalize mayB x = m at HP HF ⊢
  unfold wv
  unfold mayP at HP HF
  generalize x.c = c at HP HF ⊢
  generalize x.s = s at HP HF ⊢
  generalize x.o = o at HP HF ⊢
  by_cases h1 : 0 ≤ c ∧ c ≤ 3 ∧ 1 ≤ s ∧ s ≤ 1099511627776 ∧ 1 ≤ o ∧ o ≤ 1099511627776
  · obtain rfl := HP.out.2 h1
    obtain ⟨a1, a2, a3, a4, a5, a6⟩ := h1
    clear HP HF
    go_enter Try.func72, Try.ntmps72
    go_wp2
    go_ret
    exact ⟨rfl, al _ _⟩
  · obtain rfl := HF.out.2 h1
    have HN := Lib.hid h1
    clear h1 HP HF
    go_enter Try.func72, Try.ntmps72
    go_wp2
    all_goals first
      | (exfalso; have := HN.out; omega)
      | (go_ret; exact ⟨rfl, al _ _⟩)
      | (go_ret; exact ⟨ret_bool (by have := HN.out; simp; omega), al _ _⟩)
/-- Not so, as a function value. -/
theorem notMay_any (x : Wt) (w : World) : Calls Try.prog 71 #[wv x] w (BoolB (!mayB x) w) := by
  have HO := Lib.hid (fun W => oneMayBe_any x W)
  have HB := Lib.hid (al w (.cells #[.int .i64 x.c, .int .i64 x.s, .int .i64 x.o] 60))
  generalize mayB x = m at HO ⊢
  unfold wv at HO ⊢
  go_enter Try.func71, Try.ntmps71
  go_wp2_with (go_at_call 72; (with_reducible refine (HO.out _).mono ?_); rintro e w' ⟨rfl, hz⟩; have HZ := Lib.hid (below_trans HB.out hz); clear hz)
  go_ret
  exact ⟨rfl, HZ.out⟩
end Go.Proofs.Ytjmmijobdcepmaa.Queue
