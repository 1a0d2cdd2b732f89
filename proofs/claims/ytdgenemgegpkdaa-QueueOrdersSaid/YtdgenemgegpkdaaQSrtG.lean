/-
  The library's sort over a row of waits: bits.Len of what is small, nextPowerOfTwo, xorshift's Next, breakPatterns.
-/
import Derived.Test.YtdgenemgegpkdaaQSrtA
import Derived.Lib.BitFns
import Derived.Lib.Strings
import Derived.Lib.Slices
import Derived.Lib.Small
import Derived.Lib.Walk
import Derived.IntWalk
import Derived.Deep.CutBlock
namespace Go.Proofs.Ytdgenemgegpkdaa.Queue
open Go.ChangeShapes Go.WideShapes Go.ChangeAt Go.RowKit Go.Shelf Go.Sort

theorem bitLen_few : ∀ n : Fin 1001, 1 ≤ n.val → 2 ^ Lib.bitLen n.val ≤ 2 * n.val := by decide +kernel
theorem tab_at (k : Nat) (h : k < Lib.len8tab.size) : ((Lib.len8tab[k]).toNat : Int) = (Lib.bitLen k : Int) := by
  have hk : k < 256 := by rw [Lib.len8tab_size] at h; exact h
  have := Lib.len8_of (k : Int) (by omega) (by omega)
  unfold Lib.len8 at this
  rw [show ((k : Int).toNat) = k by omega, getElem?_pos Lib.len8tab k h] at this
  exact this
set_option maxHeartbeats 4000000 in
set_option maxRecDepth 100000 in
theorem Len64_few (y : Int) (h0 : 0 ≤ y) (h1 : y ≤ 1000) (w : World) : Calls Try.prog 40 #[.int .u64 y] w fun e w' => e = .returned (.int .i64 (Lib.bitLen y.toNat)) ∧ w = w' := by
  have hls : Lib.len8tab.size = 256 := Lib.len8tab_size
  go_enter Try.func40, Try.ntmps40
  go_wp2
  all_goals (go_ret; refine ⟨congrArg Ending.returned (congrArg (Value.int IntKind.i64) ?_), rfl⟩)
  · have e : (y / 256).toNat = y.toNat / 256 := by omega
    have hb := Lib.bitLen_le8' (y / 256) (by omega) (by omega)
    have s := Lib.bitLen_shift8 y.toNat (by omega) (by omega)
    rw [tab_at, s]
    rw [e] at hb ⊢
    unfold RowKit.wrap64
    omega
  · have hb := Lib.bitLen_le8' y (by omega) (by omega)
    rw [tab_at]
    unfold RowKit.wrap64
    omega
theorem Len_few (x : Nat) (hx : x ≤ 1000) (w : World) : Calls Try.prog 34 #[.int .u64 x] w fun e w' => e = .returned (.int .i64 (Lib.bitLen x)) ∧ w = w' := by
  go_enter Try.func34, Try.ntmps34
  go_wp2_with (go_at_call 40; (with_reducible refine (Len64_few x (by omega) (by omega) _).mono ?_); rintro e w' ⟨rfl, rfl⟩)
  go_ret
  exact ⟨rfl, rfl⟩
set_option maxHeartbeats 4000000 in
set_option maxRecDepth 100000 in
theorem nextPow_few (x : Nat) (hx0 : 1 ≤ x) (hx : x ≤ 1000) (w : World) : Calls Try.prog 50 #[.int .i64 x] w fun e w' => (∃ m : Nat, e = .returned (.int .u64 m) ∧ 1 ≤ m ∧ m ≤ 2 * x) ∧ w = w' := by
  have HL := Lib.hid (Len_few x hx)
  have HB : Hid (2 ^ Lib.bitLen x ≤ 2 * x) := Lib.hid (bitLen_few ⟨x, by omega⟩ hx0)
  have hk : Lib.bitLen x ≤ 10 := Lib.bitLen_le x 10 (by omega) (by omega)
  generalize Lib.bitLen x = k at *
  go_enter Try.func50, Try.ntmps50
  go_wp2_with (go_at_call 34; (with_reducible refine (HL.out _).mono ?_); rintro e w' ⟨rfl, rfl⟩)
  go_ret
  refine ⟨⟨2 ^ k, ?_, Nat.one_le_two_pow, HB.out⟩, rfl⟩
  refine congrArg Ending.returned (congrArg (Value.int IntKind.u64) ?_)
  have hp : 2 ^ k ≤ 2000 := by have := HB.out; omega
  have : IntKind.u64.wrap (2 ^ k : Int) = (2 ^ k : Int) := by
    have e : (2 ^ k : Int) = ((2 ^ k : Nat) : Int) := by simp
    rw [e]
    generalize 2 ^ k = p at hp ⊢
    exact IntWalk.u64_in _ (by omega)
  rw [show ((2 ^ k : Nat) : Int) = (2 ^ k : Int) by simp]
  exact this

/-- The row, beside a number of 64 bits in a block of its own. -/
def Rnd (B : Nat) (v : Value) (n : Nat) (w0 : World) (d : Array Wt) (c : Nat) (x : Int) (W : World) : Prop := LR B v n w0 d W ∧ W.heap[c]? = some (.cells #[.int .u64 x] 79 (0, 0)) ∧ B ≤ c ∧ 0 ≤ x ∧ x ≤ 18446744073709551615
theorem Rnd.lt {B n c : Nat} {x : Int} {v : Value} {w0 W : World} {d : Array Wt} (h : Rnd B v n w0 d c x W) : c < W.heap.size := (Array.getElem?_eq_some_iff.1 h.2.1).1
theorem Rnd.below {B n c : Nat} {x : Int} {v : Value} {w0 W W' : World} {d : Array Wt} (h : Rnd B v n w0 d c x W) (hb : RowKit.Below W.heap.size W W') : Rnd B v n w0 d c x W' :=
  ⟨h.1.below hb, (hb.block c h.lt).trans h.2.1, h.2.2⟩
theorem Rnd.cell {B n c : Nat} {x : Int} {v : Value} {w0 W : World} {d : Array Wt} (h : Rnd B v n w0 d c x W) : W.cell? ⟨c, 0, none⟩ = some (.int .u64 x) ∧ W.frozen? ⟨c, 0, none⟩ = false := by
  refine ⟨?_, by simp [World.frozen?, h.2.1]⟩
  rw [cell_of_row W c 0 #[.int .u64 x] 79 (0, 0) h.2.1]
  rfl
theorem Rnd.store {B n c : Nat} {x : Int} {v : Value} {w0 W : World} {d : Array Wt} (h : Rnd B v n w0 d c x W) {y : Int} (h0 : 0 ≤ y) (h1 : y ≤ 18446744073709551615) : Rnd B v n w0 d c y (W.setCell ⟨c, 0, none⟩ (.int .u64 y)) := by
  have hne : v.ownBlock ≠ some c := by
    intro e
    obtain ⟨c', fz, hc⟩ := Go.Lib.ownsRow_kind h.1.1 c e
    rw [h.2.1] at hc
    cases hc
  refine ⟨⟨ownsRow_setCell_other h.1.1 hne _, h.1.2.1, by have := h.1.2.2.1; simpa using this, h.1.2.2.2.setCell (p := ⟨c, 0, none⟩) h.2.2.1 _⟩, ?_, h.2.2.1, h0, h1⟩
  rw [heap_setCell_same W c 0 #[.int .u64 x] 79 (.int .u64 y) h.2.1]
  rfl
theorem swapR {B n c : Nat} {x : Int} {v : Value} {w0 W : World} {d : Array Wt} (h : Rnd B v n w0 d c x W) (I J : Int) (i j : Nat) (hI : I = i) (hJ : J = j) (hi : i < n) (hj : j < n) :
    Calls Try.prog 73 #[v, .int .i64 I, .int .i64 J] W (fun e W' => e = .returned (.tuple #[]) ∧ Rnd B v n w0 (swp d i j) c x W') := by
  subst hI
  subst hJ
  have hl : d.toList.length = n := by simpa using h.1.2.1
  obtain ⟨g, cap, rfl⟩ := h.1.1.form (by omega)
  have hne : c ≠ g := by
    intro e
    subst e
    obtain ⟨c', fz, hc⟩ := Go.Lib.ownsRow_kind h.1.1 c rfl
    rw [h.2.1] at hc
    cases hc
  refine (Swap_any h.1.1 rfl (i := i) (j := j) (by omega) (by omega)).mono ?_
  rintro e W' ⟨rfl, h1, h2, h3⟩
  have e2 : (lsw d.toList i j) = (swp d i j).toList := by
    have := lsw_swp d.toList i j
    rw [show d.toList.toArray = d by simp] at this
    rw [← this]
  rw [e2] at h1
  exact ⟨rfl, ⟨h1, by rw [size_swp]; exact h.1.2.1, by have := h2.size; have := h.1.2.2.1; omega, h.1.2.2.2.trans h2⟩, (h3 c hne h.lt).trans h.2.1, h.2.2⟩
set_option maxHeartbeats 4000000 in
set_option maxRecDepth 100000 in
theorem Next_any {B n c : Nat} {x : Int} {v : Value} {w0 w : World} {d : Array Wt} (h : Rnd B v n w0 d c x w) :
    Calls Try.prog 51 #[.pointer (some ⟨c, 0, none⟩)] w fun e W => ∃ y : Int, e = .returned (.int .u64 y) ∧ Rnd B v n w0 d c y W := by
  have H := Lib.hid h
  obtain ⟨k0, f0⟩ := h.cell
  have hb0 := h.2.2.2.1
  have hb1 := h.2.2.2.2
  clear h
  go_enter Try.func51, Try.ntmps51
  go_upto_region 1 with fail
  go_region
  have h1 := bits_within .xor .u64 x (IntKind.u64.wrap (x * 8192))
  generalize bits .xor .u64 x (IntKind.u64.wrap (x * 8192)) = x1 at *
  have H1 := Lib.hid (H.out.store (y := x1) h1.1 h1.2)
  obtain ⟨k1, f1⟩ := H1.out.cell
  generalize w.setCell ⟨c, 0, none⟩ (.int .u64 x1) = w1 at *
  go_upto_region 2 with fail
  go_region
  have h2 := bits_within .xor .u64 x1 (x1 / 128)
  generalize bits .xor .u64 x1 (x1 / 128) = x2 at *
  have H2 := Lib.hid (((H1.out.store (y := x2) h2.1 h2.2).below (dr _)).below (dr _))
  obtain ⟨k2, f2⟩ := H2.out.cell
  clear H H1 k0 f0 k1 f1
  generalize (w1.setCell ⟨c, 0, none⟩ (.int .u64 x2)).drew.drew = w2 at *
  go_upto_region 3 with fail
  go_region
  have h3 := bits_within .xor .u64 x2 (IntKind.u64.wrap (x2 * 131072))
  generalize bits .xor .u64 x2 (IntKind.u64.wrap (x2 * 131072)) = x3 at *
  have H3 := Lib.hid ((H2.out.store (y := x3) h3.1 h3.2).below (dr _))
  obtain ⟨k3, f3⟩ := H3.out.cell
  clear H2 k2 f2
  generalize (w2.setCell ⟨c, 0, none⟩ (.int .u64 x3)).drew = w3 at *
  go_wp2_with fail
  go_ret
  exact ⟨x3, rfl, H3.out⟩

def Brk (B : Nat) (v : Value) (n : Nat) (w0 : World) (d : Array Wt) (a b c : Nat) (W : World) : Prop := ∃ (d' : Array Wt) (x : Int), Rnd B v n w0 d' c x W ∧ PermIn a b d d'
def Perms (B : Nat) (v : Value) (n : Nat) (w0 : World) (d : Array Wt) (a b : Nat) (e : Ending) (W : World) : Prop := e = .returned (.tuple #[]) ∧ ∃ d', LR B v n w0 d' W ∧ PermIn a b d d'
theorem and_few {y m : Int} (hy0 : 0 ≤ y) (hy : y ≤ 18446744073709551615) (hm0 : 1 ≤ m) (hm : m ≤ 2000) : ∃ z : Nat, bits .and .u64 y (m - 1) = (z : Int) ∧ (z : Int) ≤ m - 1 := by
  have := bits_and_u64_nat y.toNat (m - 1).toNat (by omega) (by omega)
  rw [show ((y.toNat : Nat) : Int) = y by omega, show (((m - 1).toNat : Nat) : Int) = m - 1 by omega] at this
  have h2 := Nat.and_le_right (n := y.toNat) (m := (m - 1).toNat)
  exact ⟨_, this, by omega⟩
set_option maxHeartbeats 8000000 in
set_option maxRecDepth 100000 in
theorem breakPatterns_any {B n : Nat} {v : Value} {w0 w : World} {d : Array Wt} (h : LR B v n w0 d w) {a b : Nat} (hab : a + 12 < b) (hb : b ≤ n) (hn : n ≤ 1000) :
    Calls Try.prog 43 #[.iface 40 v, .int .i64 a, .int .i64 b] w (Perms B v n w0 d a b) := by
  have eS := ent_Swap
  have gS := get_Swap v
  obtain ⟨m, hm⟩ : ∃ m, b - a = m := ⟨_, rfl⟩
  have hm1 : (b : Int) - (a : Int) = (m : Int) := by omega
  have hmn : a + m ≤ n := by omega
  have hm12 : 12 < m := by omega
  have HBM : Hid (b = a + m) := Lib.hid (by omega)
  have hm8 : (8 : Int) ≤ (m : Int) := by omega
  obtain ⟨q, hq⟩ : ∃ q, m / 4 = q := ⟨_, rfl⟩
  have hq1 : (m : Int) / 4 = (q : Int) := by omega
  have hq2 : 3 ≤ q := by omega
  have hq3 : q * 4 ≤ m := by omega
  have HC : Hid (Brk B v n w0 d a b w.heap.size (w.alloc (.cells #[.int .u64 m] 79))) := Lib.hid ⟨d, m, ⟨h.below (al _ _), heap_alloc_new w _, h.2.2.1, by omega, by omega⟩, permIn_refl _ _ _⟩
  have HNP := Lib.hid (nextPow_few m (by omega) (by omega))
  have hds := h.size
  clear h hm hq
  go_enter Try.func43, Try.ntmps43
  go_upto_region 3 with fail
  generalize w.alloc (.cells #[.int .u64 m] 79) = W0 at *
  generalize w.heap.size = c at *
  obtain ⟨i0, hi0⟩ : ∃ x : Nat, a + q * 2 - 1 = x := ⟨_, rfl⟩
  have ei0 : (a : Int) + (q : Int) * 2 - 1 = (i0 : Int) := by omega
  obtain ⟨i9, hi9⟩ : ∃ x : Nat, a + q * 2 + 1 = x := ⟨_, rfl⟩
  have ei9 : (a : Int) + (q : Int) * 2 + 1 = (i9 : Int) := by omega
  have hi1 : a ≤ i0 := by omega
  have hi2 : i0 ≤ i9 := by omega
  have HI9 : Hid (i9 < b) := Lib.hid (by have := HBM.out; omega)
  clear hi0 hi9
  go_upto_block 0 with (first
    | (go_at_call 50; (with_reducible refine (HNP.out _).mono ?_); rintro e w1 ⟨⟨md, rfl, hmd1, hmd2⟩, rfl⟩))
  try simp only [ei0]
  go_wp2_with fail
  go_loopw [9] (fun x W => ∃ k : Nat, x = .int .i64 k ∧ i0 ≤ k ∧ k ≤ i9 + 1 ∧ Brk B v n w0 d a b c W) (fun x _ => i9 + 1 - (Go.RowKit.intOf x).toNat)
  case atStart => exact ⟨i0, rfl, by omega, by omega, HC.out⟩
  case round =>
    clear HC
    obtain ⟨k, rfl, hk1, hk2, d1, y0, hr, hpm⟩ := hrel
    have HR := Lib.hid hr
    have HP := Lib.hid hpm
    clear hr hpm ei0
    by_cases hk : k ≤ i9
    · have hk' : (k : Int) ≤ (i9 : Int) := by omega
      go_upto_region 8 with (first
        | (go_at_call 51; (with_reducible refine (Next_any HR.out).mono ?_); rintro e w2 ⟨y, rfl, h2⟩; have H2 := Lib.hid h2; clear h2))
      obtain ⟨z, hz1, hz2⟩ := and_few (y := y) (m := (md : Int)) H2.out.2.2.2.1 H2.out.2.2.2.2 (by omega) (by omega)
      have hz3 : z < 2 * m := by omega
      have ez : RowKit.wrap64 (z : Int) = (z : Int) := by unfold RowKit.wrap64; omega
      try simp only [hz1, ez]
      clear hz1 ez
      have hkb : k < n := by have := HI9.out; omega
      by_cases hzm : m ≤ z
      · have hzm' : (m : Int) ≤ (z : Int) := by omega
        have HP2 : Hid (PermIn a b d (swp d1 k (a + (z - m)))) := Lib.hid (permIn_trans _ _ _ a b HP.out (swp_permIn d1 a b k (a + (z - m)) (by omega) (by have := HI9.out; omega) (by omega) (by have := HBM.out; omega) (by have := H2.out.1.size; omega)))
        have HSW := Lib.hid (fun W (q : Rnd B v n w0 d1 c y W) => swapR q (k : Int) ((a : Int) + ((z : Int) - (m : Int))) k (a + (z - m)) rfl (by omega) hkb (by omega))
        go_wp2_with (first
          | (go_at_fn 73; (with_reducible refine (HSW.out _ H2.out).mono ?_); rintro e w3 ⟨rfl, h3⟩; have H3 := Lib.hid h3; clear h3))
        go_roundw
        case rel => exact ⟨k + 1, by go_num, by omega, by omega, _, _, H3.out, HP2.out⟩
        case measure => simp [Go.RowKit.intOf]; omega
      · have hzm' : ¬ (m : Int) ≤ (z : Int) := by omega
        have HP2 : Hid (PermIn a b d (swp d1 k (a + z))) := Lib.hid (permIn_trans _ _ _ a b HP.out (swp_permIn d1 a b k (a + z) (by omega) (by have := HI9.out; omega) (by omega) (by have := HBM.out; omega) (by have := H2.out.1.size; omega)))
        have HSW := Lib.hid (fun W (q : Rnd B v n w0 d1 c y W) => swapR q (k : Int) ((a : Int) + (z : Int)) k (a + z) rfl (by omega) hkb (by omega))
        go_wp2_with (first
          | (go_at_fn 73; (with_reducible refine (HSW.out _ H2.out).mono ?_); rintro e w3 ⟨rfl, h3⟩; have H3 := Lib.hid h3; clear h3))
        go_roundw
        case rel => exact ⟨k + 1, by go_num, by omega, by omega, _, _, H3.out, HP2.out⟩
        case measure => simp [Go.RowKit.intOf]; omega
    · have hk' : ¬ (k : Int) ≤ (i9 : Int) := by omega
      go_wp2_with fail
      go_end0
      exact ⟨rfl, d1, HR.out.1, HP.out⟩
end Go.Proofs.Ytdgenemgegpkdaa.Queue
