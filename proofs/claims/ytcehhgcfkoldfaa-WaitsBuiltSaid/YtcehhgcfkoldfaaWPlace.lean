/-
  Contracts of package waits: where a line stands (sort.Search over a bound method; place).
-/
import Derived.Test.YtcehhgcfkoldfaaWHand
namespace Go.Proofs.Ytcehhgcfkoldfaa.Waits
open Go.ChangeShapes Go.WideShapes Go.ChangeAt Go.RowKit Go.Shelf
open Go.Proofs.Ytcehhgcfkoldfaa.Goods
open Go.Proofs.Ytcehhgcfkoldfaa.Queue (Wt ltB wv QRow)

set_option maxHeartbeats 1000000 in
set_option maxRecDepth 100000 in
theorem Search_any (N : Nat) (he : Goods.Enters N) (b : Value) (n k : Nat) (hn : n ≤ 100000) (hk : k ≤ n) (p : Nat → Bool) (h1 : ∀ j, j < k → p j = false) (h2 : ∀ j, k ≤ j → j < n → p j = true) {w : World} (hp : ∀ i, i < n → ∀ W, Below w.heap.size w W → Calls Try.prog N #[b, .int .i64 i] W (BoolB (p i) W)) : Calls Try.prog 52 #[.int .i64 n, .func (.func N) #[b] #[]] w (IntB k w) := by
  have HP := Lib.hid hp
  have H1 := Lib.hid h1
  have H2 := Lib.hid h2
  unfold Goods.Enters at he
  clear hp h1 h2
  go_enter Try.func52, Try.ntmps52
  go_wp2
  go_loopg [5, 6] n (fun kx s5 s6 wr => ∃ lo hi : Nat, s5 = .int .i64 lo ∧ s6 = .int .i64 hi ∧ hi - lo ≤ kx ∧ lo ≤ k ∧ k ≤ hi ∧ hi ≤ n ∧ Below w.heap.size w wr)
  case atStart => exact ⟨0, n, rfl, rfl, by omega, by omega, hk, Nat.le_refl _, Below.refl _ _⟩
  case round =>
    obtain ⟨lo, hi, rfl, rfl, hg, hlk, hkh, hhn, hb⟩ := hrel
    have HB := Lib.hid hb
    clear hb
    by_cases hlt : lo < hi
    · obtain ⟨m, hm⟩ : ∃ m : Nat, (lo + hi) / 2 = m := ⟨_, rfl⟩
      have hmn : m < n := by omega
      have hmi : ((lo : Int) + (hi : Int)) / 2 = (m : Int) := by omega
      have hc := HP.out m hmn wr HB.out
      by_cases hkm : k ≤ m
      · rw [H2.out m hkm hmn] at hc
        have HC := Lib.hid hc
        clear hc
        go_wp2_with fail
        (with_reducible refine HC.out.mono ?_)
        rintro e w' ⟨rfl, hz⟩
        have HZ := Lib.hid (below_trans HB.out hz)
        clear hz
        go_wp2_with fail
        go_roundg (m - lo)
        case measure => omega
        case rel => exact ⟨lo, m, rfl, rfl, Nat.le_refl _, hlk, hkm, by omega, HZ.out⟩
      · rw [H1.out m (by omega)] at hc
        have HC := Lib.hid hc
        clear hc
        go_wp2_with fail
        (with_reducible refine HC.out.mono ?_)
        rintro e w' ⟨rfl, hz⟩
        have HZ := Lib.hid (below_trans HB.out hz)
        clear hz
        go_wp2_with fail
        go_roundg (hi - (m + 1))
        case measure => omega
        case rel => exact ⟨m + 1, hi, rfl, rfl, Nat.le_refl _, by omega, hkh, hhn, HZ.out⟩
    · obtain rfl : lo = k := by omega
      go_wp2
      go_ret
      exact ⟨rfl, HB.out⟩

def ssv (v : Value) (x : Ln) : Value := .agg #[v, .string x.k, .int .i64 x.w.c, .int .i64 x.w.s, .int .i64 x.w.o]
theorem box5 {b : Nat} {v0 v1 v2 v3 v4 : Value} {w : World} (h : Box b [v0, v1, v2, v3, v4] w) : w.cell? ⟨b, 0, none⟩ = some v0 ∧ w.cell? ⟨b, 1, none⟩ = some v1 ∧ w.cell? ⟨b, 2, none⟩ = some v2 ∧ w.cell? ⟨b, 3, none⟩ = some v3 ∧ w.cell? ⟨b, 4, none⟩ = some v4 := ⟨(h.2 0 _ rfl).1, (h.2 1 _ rfl).1, (h.2 2 _ rfl).1, (h.2 3 _ rfl).1, (h.2 4 _ rfl).1⟩
set_option maxHeartbeats 1000000 in
set_option maxRecDepth 100000 in
theorem reached_any {v : Value} {l : List Ln} {w : World} (h : LRow w v l) (x : Ln) (i : Nat) (hi : i < l.length) : Calls Try.prog 53 #[ssv v x, .int .i64 i] w (BoolB (!ltL l[i] x) w) := by
  obtain ⟨a, cap, rfl⟩ := h.slice
  have hb1 := al w (.cells #[.slice a l.length cap, .string x.k, .int .i64 x.w.c, .int .i64 x.w.s, .int .i64 x.w.o] 77)
  have hbx := Box.made w [.slice a l.length cap, .string x.k, .int .i64 x.w.c, .int .i64 x.w.s, .int .i64 x.w.o] 77
  obtain ⟨b, off, rfl, hlc, hcap, hb, k0, k1, k2, k3⟩ := (h.below hb1).at hi
  have HN := Lib.hid (fun W => Waits.below_any l[i] x W)
  generalize l[i] = y at *
  obtain ⟨W1, hW1⟩ : ∃ W, w.alloc (.cells #[.slice (some ⟨b, off, none⟩) l.length cap, .string x.k, .int .i64 x.w.c, .int .i64 x.w.s, .int .i64 x.w.o] 77) = W := ⟨_, rfl⟩
  rw [hW1] at hb1 hbx k0 k1 k2 k3 hb
  have HB1 := Lib.hid hb1
  have HSF : Hid (∀ w', Below W1.heap.size W1 w' → (w'.cell? ⟨w.heap.size, 0, none⟩ = some (.slice (some ⟨b, off, none⟩) l.length cap) ∧ w'.cell? ⟨w.heap.size, 1, none⟩ = some (.string x.k) ∧ w'.cell? ⟨w.heap.size, 2, none⟩ = some (.int .i64 x.w.c) ∧ w'.cell? ⟨w.heap.size, 3, none⟩ = some (.int .i64 x.w.s) ∧ w'.cell? ⟨w.heap.size, 4, none⟩ = some (.int .i64 x.w.o)) ∧ w'.cell? ⟨b, off + i * 4, none⟩ = some (.string y.k) ∧ w'.cell? ⟨b, off + i * 4 + 1, none⟩ = some (.int .i64 y.w.c) ∧ w'.cell? ⟨b, off + i * 4 + 2, none⟩ = some (.int .i64 y.w.s) ∧ w'.cell? ⟨b, off + i * 4 + 3, none⟩ = some (.int .i64 y.w.o)) := Lib.hid (fun w' hz => ⟨box5 (hbx.below hz), (hz.cell (p := ⟨b, _, none⟩) hb).trans k0, (hz.cell (p := ⟨b, _, none⟩) hb).trans k1, (hz.cell (p := ⟨b, _, none⟩) hb).trans k2, (hz.cell (p := ⟨b, _, none⟩) hb).trans k3⟩)
  obtain ⟨d0, d1, d2, d3, d4⟩ := box5 hbx
  have hbb := hbx.1
  have c0 : (0 : Int) ≤ i := by omega
  have c1 : (i : Int) < l.length := by omega
  unfold lv at HN
  unfold ssv
  generalize ltL y x = m at *
  clear h hbx hb1
  go_enter Try.func53, Try.ntmps53
  go_upto_region 1 with (fail)
  clear hW1
  go_region_held3 (fun w' => (w'.cell? ⟨w.heap.size, 0, none⟩ = some (.slice (some ⟨b, off, none⟩) l.length cap) ∧ w'.cell? ⟨w.heap.size, 1, none⟩ = some (.string x.k) ∧ w'.cell? ⟨w.heap.size, 2, none⟩ = some (.int .i64 x.w.c) ∧ w'.cell? ⟨w.heap.size, 3, none⟩ = some (.int .i64 x.w.s) ∧ w'.cell? ⟨w.heap.size, 4, none⟩ = some (.int .i64 x.w.o)) ∧ w'.cell? ⟨b, off + i * 4, none⟩ = some (.string y.k) ∧ w'.cell? ⟨b, off + i * 4 + 1, none⟩ = some (.int .i64 y.w.c) ∧ w'.cell? ⟨b, off + i * 4 + 2, none⟩ = some (.int .i64 y.w.s) ∧ w'.cell? ⟨b, off + i * 4 + 3, none⟩ = some (.int .i64 y.w.o)) (first | with_reducible exact HSF.out _ (dr W1) | with_reducible exact HSF.out _ HZ.out | fail)
    (first
      | (go_at_call 47; (with_reducible refine (HN.out _).mono ?_); rintro e w5 ⟨rfl, hz⟩; have HZ := Lib.hid (below_trans (dr W1) hz); clear hz)
      | fail)
  go_wp2_with fail
  go_ret
  exact ⟨rfl, below_trans HB1.out HZ.out⟩

set_option maxHeartbeats 1000000 in
set_option maxRecDepth 100000 in
theorem place_any {v : Value} {l : List Ln} {w : World} (h : LRow w v l) (hl : l.length ≤ 1000) (hs : Srt l) (x : Ln) : Calls Try.prog 39 #[v, lv x] w (IntB (posI x l) w) := by
  have hmf := makes
  have hb1 := al w (.cells (lcs x).toArray 26)
  have hbx := Box.made w (lcs x) 26
  have HB1 := Lib.hid hb1
  have HS := Lib.hid (Search_any 53 (enters_of Try.func53 (by kernel_rfl) rfl) (ssv v x) l.length (posI x l) (by omega) (posI_le x l) (fun i => if h : i < l.length then !ltL l[i] x else true)
    (fun j hj => by
      have := posI_le x l
      rw [dif_pos (by omega), posI_lt x l j (by omega) hj]
      rfl)
    (fun j hj hjl => by
      rw [dif_pos hjl]
      have hp : posI x l < l.length := by omega
      have ha := posI_at x l hp
      by_cases e : posI x l = j
      · subst e; rw [ha]; rfl
      · rw [ge_trans ha (List.pairwise_iff_getElem.1 hs _ _ hp hjl (by omega))]
        rfl)
    (w := w.alloc (.cells (lcs x).toArray 26))
    (fun i hi W hW => by
      rw [dif_pos hi]
      exact reached_any ((h.below hb1).below hW) x i hi))
  obtain ⟨a, cap, rfl⟩ := h.slice
  unfold lcs at HS HB1
  unfold ssv at HS
  unfold lv
  generalize posI x l = z at *
  clear h hs hb1 hbx
  go_enter Try.func39, Try.ntmps39
  go_wp2_with fail
  (with_reducible refine HS.out.mono ?_)
  rintro e w' ⟨rfl, hz⟩
  have HZ := Lib.hid (below_trans HB1.out hz)
  clear hz
  go_wp2_with fail
  go_ret
  exact ⟨rfl, HZ.out⟩
end Go.Proofs.Ytcehhgcfkoldfaa.Waits
