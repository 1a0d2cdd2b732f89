/-
  The library's sort over a row of waits: order2, median, medianAdjacent, choosePivot.
-/
import Derived.Test.YtdgenemgegpkdaaQSrtA
namespace Go.Proofs.Ytdgenemgegpkdaa.Queue
open Go.ChangeShapes Go.WideShapes Go.ChangeAt Go.RowKit Go.Shelf Go.Sort

/-- The row, beside a counter in a block of its own. -/
def Ctr (B : Nat) (v : Value) (n : Nat) (w0 : World) (d : Array Wt) (c : Nat) (s : Nat) (W : World) : Prop := LR B v n w0 d W ∧ W.heap[c]? = some (.cells #[.int .i64 s] 3 (0, 0)) ∧ B ≤ c
theorem Ctr.lt {B n c s : Nat} {v : Value} {w0 W : World} {d : Array Wt} (h : Ctr B v n w0 d c s W) : c < W.heap.size := (Array.getElem?_eq_some_iff.1 h.2.1).1
theorem Ctr.below {B n c s : Nat} {v : Value} {w0 W W' : World} {d : Array Wt} (h : Ctr B v n w0 d c s W) (hb : RowKit.Below W.heap.size W W') : Ctr B v n w0 d c s W' :=
  ⟨h.1.below hb, (hb.block c h.lt).trans h.2.1, h.2.2⟩
theorem Ctr.cell {B n c s : Nat} {v : Value} {w0 W : World} {d : Array Wt} (h : Ctr B v n w0 d c s W) : W.cell? ⟨c, 0, none⟩ = some (.int .i64 s) ∧ W.frozen? ⟨c, 0, none⟩ = false := by
  refine ⟨?_, by simp [World.frozen?, h.2.1]⟩
  rw [cell_of_row W c 0 #[.int .i64 s] 3 (0, 0) h.2.1]
  rfl
theorem Ctr.store {B n c s : Nat} {v : Value} {w0 W : World} {d : Array Wt} (h : Ctr B v n w0 d c s W) (s' : Nat) : Ctr B v n w0 d c s' (W.setCell ⟨c, 0, none⟩ (.int .i64 s')) := by
  have hne : v.ownBlock ≠ some c := by
    intro e
    obtain ⟨c', fz, hc⟩ := Go.Lib.ownsRow_kind h.1.1 c e
    rw [h.2.1] at hc
    cases hc
  refine ⟨⟨ownsRow_setCell_other h.1.1 hne _, h.1.2.1, by have := h.1.2.2.1; simpa using this, h.1.2.2.2.setCell (p := ⟨c, 0, none⟩) h.2.2 _⟩, ?_, h.2.2⟩
  rw [heap_setCell_same W c 0 #[.int .i64 s] 3 (.int .i64 s') h.2.1]
  rfl
theorem LessC {B n c s : Nat} {v : Value} {w0 W : World} {d : Array Wt} (h : Ctr B v n w0 d c s W) (i j : Nat) (hi : i < n) (hj : j < n) :
    Calls Try.prog 72 #[v, .int .i64 i, .int .i64 j] W (fun e W' => e = .returned (.bool (ltB d[i]! d[j]!)) ∧ Ctr B v n w0 d c s W') := by
  refine (LessM_any h.1.1.row (i := i) (j := j) (by simpa [h.1.2.1] using hi) (by simpa [h.1.2.1] using hj)).mono ?_
  rintro e W' ⟨rfl, hb⟩
  exact ⟨by simp, h.below hb⟩

def OrdE (B : Nat) (v : Value) (n : Nat) (w0 : World) (d : Array Wt) (c s a b : Nat) (e : Ending) (W : World) : Prop := ∃ p q s' : Nat, e = .returned (.tuple #[.int .i64 p, .int .i64 q]) ∧ ((p = a ∧ q = b) ∨ (p = b ∧ q = a)) ∧ s' ≤ s + 1 ∧ Ctr B v n w0 d c s' W
set_option maxHeartbeats 4000000 in
set_option maxRecDepth 100000 in
theorem order2_any {B n c s : Nat} {v : Value} {w0 w : World} {d : Array Wt} (h : Ctr B v n w0 d c s w) {a b : Nat} (ha : a < n) (hb : b < n) (hs : s ≤ 1000) :
    Calls Try.prog 54 #[.iface 40 v, .int .i64 a, .int .i64 b, .pointer (some ⟨c, 0, none⟩)] w (OrdE B v n w0 d c s a b) := by
  have eL := ent_Less
  have gL := get_Less v
  have H := Lib.hid h
  have HL := Lib.hid (LessC h b a hb ha)
  clear h
  cases hm : ltB d[b]! d[a]! with
  | true =>
    rw [hm] at HL
    go_enter Try.func54, Try.ntmps54
    go_wp2_with (first
      | (go_at_fn 72; (with_reducible refine HL.out.mono ?_); rintro e w1 ⟨rfl, h1⟩; have H1 := Lib.hid h1; have HS := Lib.hid (h1.store (s + 1)); obtain ⟨k0, f0⟩ := h1.cell; clear h1))
    go_ret2
    exact ⟨b, a, s + 1, rfl, .inr ⟨rfl, rfl⟩, Nat.le_refl _, by have := HS.out; simpa using this⟩
  | false =>
    rw [hm] at HL
    go_enter Try.func54, Try.ntmps54
    go_wp2_with (first
      | (go_at_fn 72; (with_reducible refine HL.out.mono ?_); rintro e w1 ⟨rfl, h1⟩; have H1 := Lib.hid h1; clear h1))
    go_ret2
    exact ⟨a, b, s, rfl, .inl ⟨rfl, rfl⟩, by omega, H1.out⟩

def MedE (B : Nat) (v : Value) (n : Nat) (w0 : World) (d : Array Wt) (c s : Nat) (P : Nat → Prop) (e : Ending) (W : World) : Prop := ∃ p s' : Nat, e = .returned (.int .i64 p) ∧ P p ∧ s' ≤ s + 3 ∧ Ctr B v n w0 d c s' W
set_option maxHeartbeats 4000000 in
set_option maxRecDepth 100000 in
theorem median_any {B n c s : Nat} {v : Value} {w0 w : World} {d : Array Wt} (h : Ctr B v n w0 d c s w) {x y z : Nat} (hx : x < n) (hy : y < n) (hz : z < n) (hs : s ≤ 900) :
    Calls Try.prog 53 #[.iface 40 v, .int .i64 x, .int .i64 y, .int .i64 z, .pointer (some ⟨c, 0, none⟩)] w (MedE B v n w0 d c s (fun p => p = x ∨ p = y ∨ p = z)) := by
  have HO := Lib.hid (fun W (i j s : Nat) (hi : i < n) (hj : j < n) (hs : s ≤ 1000) (q : Ctr B v n w0 d c s W) => order2_any q hi hj hs)
  have H := Lib.hid h
  clear h
  go_enter Try.func53, Try.ntmps53
  go_upto_region 2 with (go_at_call 54; (with_reducible refine (HO.out _ x y s hx hy (by omega) H.out).mono ?_); rintro e w1 ⟨p1, q1, s1, rfl, c1, b1, h1⟩; have H1 := Lib.hid h1; clear h1)
  have hp1 : p1 < n := by omega
  have hq1 : q1 < n := by omega
  go_upto_region 3 with (go_at_call 54; (with_reducible refine (HO.out _ q1 z s1 hq1 hz (by omega) H1.out).mono ?_); rintro e w2 ⟨p2, q2, s2, rfl, c2, b2, h2⟩; have H2 := Lib.hid h2; clear h2)
  have hp2 : p2 < n := by omega
  go_wp2_with (go_at_call 54; (with_reducible refine (HO.out _ p1 p2 s2 hp1 hp2 (by omega) H2.out).mono ?_); rintro e w3 ⟨p3, q3, s3, rfl, c3, b3, h3⟩; have H3 := Lib.hid h3; clear h3)
  go_ret
  exact ⟨q3, s3, rfl, by omega, by omega, H3.out⟩
set_option maxHeartbeats 4000000 in
set_option maxRecDepth 100000 in
theorem medianAdjacent_any {B n c s : Nat} {v : Value} {w0 w : World} {d : Array Wt} (h : Ctr B v n w0 d c s w) {x : Nat} (hx0 : 0 < x) (hx : x + 1 < n) (hn : n ≤ 1000) (hs : s ≤ 900) :
    Calls Try.prog 52 #[.iface 40 v, .int .i64 x, .pointer (some ⟨c, 0, none⟩)] w (MedE B v n w0 d c s (fun p => p + 1 = x ∨ p = x ∨ p = x + 1)) := by
  have HM : Hid (Calls Try.prog 53 #[.iface 40 v, .int .i64 ((x : Int) - 1), .int .i64 x, .int .i64 ((x : Int) + 1), .pointer (some ⟨c, 0, none⟩)] w (MedE B v n w0 d c s (fun p => p + 1 = x ∨ p = x ∨ p = x + 1))) := Lib.hid (by
    have := median_any h (x := x - 1) (y := x) (z := x + 1) (by omega) (by omega) (by omega) hs
    rw [show ((x - 1 : Nat) : Int) = (x : Int) - 1 by omega, show ((x + 1 : Nat) : Int) = (x : Int) + 1 by omega] at this
    refine this.mono ?_
    rintro e W ⟨p, s', rfl, hp, hs', hc⟩
    exact ⟨p, s', rfl, by omega, hs', hc⟩)
  clear h
  go_enter Try.func52, Try.ntmps52
  go_wp2_with (go_at_call 53; (with_reducible refine HM.out.mono ?_); rintro e w3 ⟨p3, s3, rfl, c3, b3, h3⟩; have H3 := Lib.hid h3; clear h3)
  go_ret
  exact ⟨p3, s3, rfl, c3, b3, H3.out⟩

def PivE (B : Nat) (v : Value) (n : Nat) (w0 : World) (d : Array Wt) (a b : Nat) (e : Ending) (W : World) : Prop := ∃ (p : Nat) (k : Int), e = .returned (.tuple #[.int .i64 p, .int .i64 k]) ∧ a ≤ p ∧ p < b ∧ (k = 0 ∨ k = 1 ∨ k = 2) ∧ LR B v n w0 d W
set_option maxHeartbeats 8000000 in
set_option maxRecDepth 100000 in
theorem choosePivot_any {B n : Nat} {v : Value} {w0 w : World} {d : Array Wt} (h : LR B v n w0 d w) {a b : Nat} (hab : a + 12 < b) (hb : b ≤ n) (hn : n ≤ 1000) :
    Calls Try.prog 44 #[.iface 40 v, .int .i64 a, .int .i64 b] w (PivE B v n w0 d a b) := by
  have HC : Hid (Ctr B v n w0 d w.heap.size 0 (w.alloc (.cells #[.int .i64 0] 3))) := Lib.hid ⟨h.below (al _ _), heap_alloc_new w _, h.2.2.1⟩
  clear h
  generalize hW : w.alloc (.cells #[.int .i64 0] 3) = W0 at HC
  obtain ⟨m, hm⟩ : ∃ m, b - a = m := ⟨_, rfl⟩
  have hm1 : (b : Int) - (a : Int) = (m : Int) := by omega
  obtain ⟨q, hq⟩ : ∃ q, m / 4 = q := ⟨_, rfl⟩
  have hq1 : (m : Int) / 4 = (q : Int) := by omega
  have hq2 : 3 ≤ q := by omega
  have hq3 : a + q * 4 ≤ b := by omega
  have HM := Lib.hid (fun W (x y z s : Nat) (hx : x < n) (hy : y < n) (hz : z < n) (hs : s ≤ 900) (q : Ctr B v n w0 d w.heap.size s W) => median_any q hx hy hz hs)
  have HA := Lib.hid (fun W (x s : Nat) (hx : 0 < x) (hy : x + 1 < n) (hs : s ≤ 900) (q : Ctr B v n w0 d w.heap.size s W) => medianAdjacent_any q hx hy hn hs)
  have hm8 : (8 : Int) ≤ (m : Int) := by omega
  obtain ⟨xi, hxi⟩ : ∃ x : Nat, a + q = x := ⟨_, rfl⟩
  obtain ⟨xj, hxj⟩ : ∃ x : Nat, a + q * 2 = x := ⟨_, rfl⟩
  obtain ⟨xk, hxk⟩ : ∃ x : Nat, a + q * 3 = x := ⟨_, rfl⟩
  have exi : (a : Int) + (q : Int) = (xi : Int) := by omega
  have exj : (a : Int) + (q : Int) * 2 = (xj : Int) := by omega
  have exk : (a : Int) + (q : Int) * 3 = (xk : Int) := by omega
  go_enter Try.func44, Try.ntmps44
  go_upto_region 6 with fail
  clear hW
  generalize w.heap.size = c at *
  try simp only [exi, exj, exk]
  have hi1 : 0 < xi := by omega
  have hi2 : xi + 1 < n := by omega
  have hj1 : 0 < xj := by omega
  have hj2 : xj + 1 < n := by omega
  have hk1 : 0 < xk := by omega
  have hk2 : xk + 1 < n := by omega
  have HR : Hid (xi + 1 < b ∧ xj + 1 < b ∧ xk + 1 < b ∧ a < xi ∧ a < xj ∧ a < xk) := Lib.hid (by omega)
  clear exi exj exk hxi hxj hxk hq hq1 hq2 hq3 hm hm1
  by_cases h50 : 50 ≤ m
  · have h50' : (50 : Int) ≤ (m : Int) := by omega
    go_upto_region 12 with (first
      | (go_at_call 52; (with_reducible refine (HA.out _ xi 0 hi1 hi2 (by omega) HC.out).mono ?_); rintro e w1 ⟨p1, s1, rfl, b1, c1, h1⟩; have H1 := Lib.hid h1; clear h1; have hp1 : p1 < n := (by omega); have hs1 : s1 ≤ 900 := (by omega))
      | (go_at_call 52; (with_reducible refine (HA.out _ xj s1 hj1 hj2 hs1 H1.out).mono ?_); rintro e w2 ⟨p2, s2, rfl, b2, c2, h2⟩; have H2 := Lib.hid h2; clear h2; have hp2 : p2 < n := (by omega); have hs2 : s2 ≤ 900 := (by omega))
      | (go_at_call 52; (with_reducible refine (HA.out _ xk s2 hk1 hk2 hs2 H2.out).mono ?_); rintro e w3 ⟨p3, s3, rfl, b3, c3, h3⟩; have H3 := Lib.hid h3; clear h3; have hp3 : p3 < n := (by omega); have hs3 : s3 ≤ 900 := (by omega))
      | (go_at_call 53; (with_reducible refine (HM.out _ p1 p2 p3 s3 hp1 hp2 hp3 hs3 H3.out).mono ?_); rintro e w4 ⟨p4, s4, rfl, b4, c4, h4⟩; have H4 := Lib.hid h4; clear h4))
    obtain ⟨k0, f0⟩ := H4.out.cell
    have HP : Hid (a ≤ p4 ∧ p4 < b) := Lib.hid (by have := HR.out; omega)
    have HLR := Lib.hid H4.out.1
    clear b1 b2 b3 b4 hp1 hp2 hp3 hs1 hs2 hs3 H1 H2 H3 H4 c1 c2 c3 c4
    generalize w4 = wz at *
    by_cases hs0 : s4 = 0
    · subst hs0
      go_wp2_with fail
      go_ret2
      exact ⟨p4, 1, rfl, HP.out.1, HP.out.2, by omega, HLR.out⟩
    · by_cases hs1 : s4 = 12
      · subst hs1
        go_wp2_with fail
        go_ret2
        exact ⟨p4, 2, rfl, HP.out.1, HP.out.2, by omega, HLR.out⟩
      · have e0 : ((s4 : Int) == 0) = false := beq_eq_false_iff_ne.2 (by omega)
        have e1 : ((s4 : Int) == 12) = false := beq_eq_false_iff_ne.2 (by omega)
        go_wp2_with fail
        go_ret2
        exact ⟨p4, 0, rfl, HP.out.1, HP.out.2, by omega, HLR.out⟩
  · have h50' : ¬ (50 : Int) ≤ (m : Int) := by omega
    have hi3 : xi < n := by omega
    have hj3 : xj < n := by omega
    have hk3 : xk < n := by omega
    go_upto_region 12 with (first
      | (go_at_call 53; (with_reducible refine (HM.out _ xi xj xk 0 hi3 hj3 hk3 (by omega) HC.out).mono ?_); rintro e w4 ⟨p4, s4, rfl, b4, c4, h4⟩; have H4 := Lib.hid h4; clear h4))
    obtain ⟨k0, f0⟩ := H4.out.cell
    have HP : Hid (a ≤ p4 ∧ p4 < b) := Lib.hid (by have := HR.out; omega)
    have HLR := Lib.hid H4.out.1
    clear b4 H4 c4
    generalize w4 = wz at *
    by_cases hs0 : s4 = 0
    · subst hs0
      go_wp2_with fail
      go_ret2
      exact ⟨p4, 1, rfl, HP.out.1, HP.out.2, by omega, HLR.out⟩
    · by_cases hs1 : s4 = 12
      · subst hs1
        go_wp2_with fail
        go_ret2
        exact ⟨p4, 2, rfl, HP.out.1, HP.out.2, by omega, HLR.out⟩
      · have e0 : ((s4 : Int) == 0) = false := beq_eq_false_iff_ne.2 (by omega)
        have e1 : ((s4 : Int) == 12) = false := beq_eq_false_iff_ne.2 (by omega)
        go_wp2_with fail
        go_ret2
        exact ⟨p4, 0, rfl, HP.out.1, HP.out.2, by omega, HLR.out⟩
end Go.Proofs.Ytdgenemgegpkdaa.Queue
