/-
  Contracts of the reference's Same, of the law's own few, and of Pop of what it refuses.
-/
import Derived.Test.YtdgenemgegpkdaaQRef
namespace Go.Proofs.Ytdgenemgegpkdaa.Queue
open Go.ChangeShapes Go.WideShapes Go.ChangeAt Go.RowKit Go.Lib Go.Sort

/-- Some are returned. -/
def FewE (l : List Wt) (w : World) (e : Ending) (w' : World) : Prop := ∃ v, e = .returned v ∧ QRow w' v l ∧ Below w.heap.size w w'
set_option maxRecDepth 100000 in
theorem few_any {v : Value} {l : List Wt} {w : World} (h : QRow w v l) : Calls Try.prog 7 #[v] w (FewE (l.take 66) w) := by
  obtain ⟨a, cap, rfl⟩ := h.slice
  obtain ⟨hlc, hcap⟩ : l.length ≤ cap ∧ cap ≤ 9223372036854775807 := by obtain ⟨_, _, e, h1, h2, _⟩ := h; cases e; exact ⟨h1, h2⟩
  by_cases hc : 66 < l.length
  · have HT := Lib.hid (h.take (n := 66) (by omega))
    clear h
    go_enter Try.func7, Try.ntmps7
    go_wp2
    go_ret
    exact ⟨_, rfl, HT.out, Below.refl _ _⟩
  · have HT := Lib.hid (h.take (n := l.length) (Nat.le_refl _))
    rw [List.take_length] at HT
    have HE : Hid (l.take 66 = l) := Lib.hid (List.take_of_length_le (by omega))
    rw [HE.out]
    clear h
    go_enter Try.func7, Try.ntmps7
    go_wp2
    go_ret
    exact ⟨_, rfl, HT.out, Below.refl _ _⟩

set_option maxRecDepth 100000 in
set_option maxHeartbeats 1000000 in
theorem Same_yes {v u : Value} {l : List Wt} {w : World} (h : QRow w v l) (hu : QRow w u l) : Calls Try.prog 17 #[v, u] w (BoolB true w) := by
  obtain ⟨a, cap, rfl⟩ := h.slice
  obtain ⟨a', cap', rfl⟩ := hu.slice
  have H := Lib.hid h
  have HU := Lib.hid hu
  clear h hu
  go_enter Try.func17, Try.ntmps17
  go_wp2
  go_loopw [5, 13] (fun _ i wr => ∃ k : Nat, k ≤ l.length ∧ i = .int .i64 k ∧ Below w.heap.size w wr) (fun _ i _ => l.length - (Go.RowKit.intOf i).toNat)
  case atStart => exact ⟨0, Nat.zero_le _, rfl, Below.refl _ _⟩
  case round =>
    obtain ⟨k, hk, rfl, hr⟩ := hrel
    have HR := Lib.hid hr
    clear hr
    by_cases hlt : k < l.length
    · obtain ⟨b, off, rfl, hlc, hcap, hb, k0, k1, k2⟩ := (H.out.below HR.out).at hlt
      obtain ⟨b', off', rfl, hlc', hcap', hb', j0, j1, j2⟩ := (HU.out.below HR.out).at hlt
      go_upto_region 6 with fail
      go_region
      go_wp2_with fail
      go_roundw
      case rel => exact ⟨k + 1, by omega, by go_num, below_trans HR.out (dr _)⟩
      case measure => simp [Go.RowKit.intOf]; omega
    · obtain rfl : k = l.length := by omega
      go_wp2
      go_ret
      exact ⟨rfl, HR.out⟩

set_option maxRecDepth 100000 in
set_option maxHeartbeats 2000000 in
theorem Pop_no {v : Value} {l : List Wt} {w : World} (h : QRow w v l) (hl : l.length ≤ 1000) {k : Int} (hk : (rightB l = false ∧ k = 1) ∨ (rightB l = true ∧ l = [] ∧ k = 8)) : Calls Try.prog 19 #[v] w (PopE [] ⟨0, 0, 0⟩ k w) := by
  have HA := Lib.hid (al w (.cells #[.int .i64 0, .int .i64 0, .int .i64 0] 24))
  have HX := Lib.hid (Box.made w [.int .i64 0, .int .i64 0, .int .i64 0] 24)
  have hra := Right_any (h.below HA.out) hl
  obtain ⟨a, cap, rfl⟩ := h.slice
  rcases hk with ⟨hr, rfl⟩ | ⟨hr, rfl, rfl⟩
  · rw [hr] at hra
    have HR := Lib.hid hra
    clear h hra hr
    go_enter Try.func19, Try.ntmps19
    go_upto_region 2 with (go_at_call 12; (with_reducible refine HR.out.mono ?_); rintro e w1 ⟨rfl, hz⟩; have HX1 := Lib.hid (HX.out.below hz); have HZ := Lib.hid (below_trans HA.out hz); clear hz)
    obtain ⟨z0, z1, z2⟩ := HX1.out.c3
    have f0 := (HX1.out.2 0 _ rfl).2
    have f1 := (HX1.out.2 1 _ rfl).2
    have f2 := (HX1.out.2 2 _ rfl).2
    have hlz := HX1.out.1
    obtain ⟨gz, hgz⟩ : ∃ g, w.heap.size = g := ⟨_, rfl⟩
    have hgw : w.heap.size ≤ gz := Nat.le_of_eq hgz
    obtain ⟨W5, hW5⟩ : ∃ W, ((w1.setCell ⟨w.heap.size, 0, none⟩ (.int .i64 0)).setCell ⟨w.heap.size, 1, none⟩ (.int .i64 0)).setCell ⟨w.heap.size, 2, none⟩ (.int .i64 0) = W := ⟨_, rfl⟩
    rw [hgz] at z0 z1 z2 f0 f1 f2 hlz hW5 ⊢
    have HB6 : Hid (Below w.heap.size w W5) := Lib.hid (by
      rw [← hW5]
      exact ((HZ.out.setCell (p := ⟨gz, 0, none⟩) hgw (.int .i64 0)).setCell (p := ⟨gz, 1, none⟩) hgw (.int .i64 0)).setCell (p := ⟨gz, 2, none⟩) hgw (.int .i64 0))
    have q0 : W5.cell? ⟨gz, 0, none⟩ = some (.int .i64 0) := by rw [← hW5]; simp [go_sem, z0]
    have q1 : W5.cell? ⟨gz, 1, none⟩ = some (.int .i64 0) := by rw [← hW5]; simp [go_sem, z1]
    have q2 : W5.cell? ⟨gz, 2, none⟩ = some (.int .i64 0) := by rw [← hW5]; simp [go_sem, z2]
    clear HX HX1 HA HR HZ
    go_wp2_with fail
    clear hW5
    exact bodyPost_ret (v := .tuple #[.slice none 0 0, .agg #[.int .i64 0, .int .i64 0, .int .i64 0], .int .i64 1]) (by simp [results, Try.results19, go_sem, q0, q1, q2]) rfl ⟨_, rfl, nil_row _, HB6.out⟩
  · rw [hr] at hra
    have HR : Hid (Calls Try.prog 12 #[.slice a 0 cap] (w.alloc (.cells #[.int .i64 0, .int .i64 0, .int .i64 0] 24)) (BoolB true (w.alloc (.cells #[.int .i64 0, .int .i64 0, .int .i64 0] 24)))) := Lib.hid hra
    rw [List.length_nil]
    clear h hra hr
    go_enter Try.func19, Try.ntmps19
    go_upto_region 4 with (go_at_call 12; (with_reducible refine HR.out.mono ?_); rintro e w1 ⟨rfl, hz⟩; have HX1 := Lib.hid (HX.out.below hz); have HZ := Lib.hid (below_trans HA.out hz); clear hz)
    obtain ⟨z0, z1, z2⟩ := HX1.out.c3
    have f0 := (HX1.out.2 0 _ rfl).2
    have f1 := (HX1.out.2 1 _ rfl).2
    have f2 := (HX1.out.2 2 _ rfl).2
    have hlz := HX1.out.1
    obtain ⟨gz, hgz⟩ : ∃ g, w.heap.size = g := ⟨_, rfl⟩
    have hgw : w.heap.size ≤ gz := Nat.le_of_eq hgz
    obtain ⟨W5, hW5⟩ : ∃ W, ((w1.setCell ⟨w.heap.size, 0, none⟩ (.int .i64 0)).setCell ⟨w.heap.size, 1, none⟩ (.int .i64 0)).setCell ⟨w.heap.size, 2, none⟩ (.int .i64 0) = W := ⟨_, rfl⟩
    rw [hgz] at z0 z1 z2 f0 f1 f2 hlz hW5 ⊢
    have HB6 : Hid (Below w.heap.size w W5) := Lib.hid (by
      rw [← hW5]
      exact ((HZ.out.setCell (p := ⟨gz, 0, none⟩) hgw (.int .i64 0)).setCell (p := ⟨gz, 1, none⟩) hgw (.int .i64 0)).setCell (p := ⟨gz, 2, none⟩) hgw (.int .i64 0))
    have q0 : W5.cell? ⟨gz, 0, none⟩ = some (.int .i64 0) := by rw [← hW5]; simp [go_sem, z0]
    have q1 : W5.cell? ⟨gz, 1, none⟩ = some (.int .i64 0) := by rw [← hW5]; simp [go_sem, z1]
    have q2 : W5.cell? ⟨gz, 2, none⟩ = some (.int .i64 0) := by rw [← hW5]; simp [go_sem, z2]
    clear HX HX1 HA HR HZ
    go_wp2_with fail
    clear hW5
    exact bodyPost_ret (v := .tuple #[.slice none 0 0, .agg #[.int .i64 0, .int .i64 0, .int .i64 0], .int .i64 8]) (by simp [results, Try.results19, go_sem, q0, q1, q2]) rfl ⟨_, rfl, nil_row _, HB6.out⟩
end Go.Proofs.Ytdgenemgegpkdaa.Queue
