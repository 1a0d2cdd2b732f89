/-
  What a text is read as (a relation over bytes), and the contracts of readCount and readText of package pack, and of the reference's count, over it.
-/
import Derived.Test.YtlhbeckimhfbfaaRefNum
namespace Go.Proofs.Ytlhbeckimhfbfaa
open Go.ChangeShapes Go.WideShapes Go.ChangeAt Go.RowKit Go.Lib

/-- The text s is read as the number n with t behind it, or refused with b. -/
def Rd (s : ByteArray) (n : Int) (t : ByteArray) (b : Int) : Prop :=
  (NoLast s ∧ n = 0 ∧ t = ⟨#[]⟩ ∧ b = shortE s) ∨ ∃ i, IsLast s i ∧ ReadAs s i n t b

theorem rd_some (s : ByteArray) : ∃ n t b, Rd s n t b := by
  rcases last_or s with ⟨i, hi⟩ | h
  · obtain ⟨n, t, b, hr⟩ := readAs_some s i hi.1
    exact ⟨n, t, b, .inr ⟨i, hi, hr⟩⟩
  · exact ⟨_, _, _, .inl ⟨h, rfl, rfl, rfl⟩⟩
theorem shortE_cases (s : ByteArray) : shortE s = 3 ∨ shortE s = 4 := by unfold shortE; split <;> simp
theorem rd_bad {s : ByteArray} {n : Int} {t : ByteArray} {b : Int} (h : Rd s n t b) (hb : b ≠ 0) : n = 0 ∧ t = ⟨#[]⟩ ∧ 1 ≤ b ∧ b ≤ 5 := by
  rcases h with ⟨_, h1, h2, h3⟩ | ⟨i, _, hr⟩
  · rcases shortE_cases s with h | h <;> exact ⟨h1, h2, by omega, by omega⟩
  · rcases hr with ⟨_, _, h1, h2, h3⟩ | ⟨_, _, h1, h2, h3⟩ | ⟨_, _, h1, h2, h3⟩
    · exact ⟨h1, h2, by omega, by omega⟩
    · exact ⟨h1, h2, by omega, by omega⟩
    · exact absurd h3 hb
theorem rd_good {s : ByteArray} {n : Int} {t : ByteArray} (h : Rd s n t 0) : ∃ i, IsLast s i ∧ (i = 0 ∨ (0 < i ∧ ∀ hi : i < s.size, s[i].toNat ≠ 0)) ∧ mayB (rdN s i) = true ∧ n = rdN s i ∧ t = s.extract (i + 1) s.size := by
  rcases h with ⟨_, _, _, h3⟩ | ⟨i, hi, hr⟩
  · rcases shortE_cases s with h | h <;> omega
  · rcases hr with ⟨_, _, _, _, h3⟩ | ⟨_, _, _, _, h3⟩ | ⟨h1, h2, h3, h4, _⟩
    · omega
    · omega
    · exact ⟨i, hi, h1, h2, h3, h4⟩
theorem rd_size {s : ByteArray} {n : Int} {t : ByteArray} {b : Int} (h : Rd s n t b) : t.size ≤ s.size ∧ -1152921504606846976 ≤ n ∧ n ≤ 1152921504606846976 := by
  by_cases hb : b = 0
  · subst hb
    obtain ⟨i, hi, _, hm, rfl, rfl⟩ := rd_good h
    have := mayB_t.1 hm
    exact ⟨by rw [ByteArray.size_extract]; omega, this.1, this.2⟩
  · obtain ⟨rfl, rfl, _, _⟩ := rd_bad h hb
    exact ⟨Nat.zero_le _, by omega, by omega⟩

theorem ReadNumber_rd {s : ByteArray} {n : Int} {t : ByteArray} {b : Int} (h : Rd s n t b) (hs : s.size ≤ maxLen) (w : World) : Calls Try.prog 14 #[.string s] w (ThreeS n t b w) := by
  rcases h with ⟨h, rfl, rfl, rfl⟩ | ⟨i, hi, hr⟩
  · exact ReadNumber_short s w h hs
  · exact ReadNumber_as w hi hr hs
theorem RefRead_rd {s : ByteArray} {n : Int} {t : ByteArray} {b : Int} (h : Rd s n t b) (hs : s.size ≤ maxLen) (w : World) : Calls Try.prog 15 #[.string s] w (StructT n t b w) := by
  rcases h with ⟨h, rfl, rfl, rfl⟩ | ⟨i, hi, hr⟩
  · exact RefRead_short s w h hs
  · exact RefRead_as w hi hr hs

/-- The text s is read as a count n, at most most, with t behind it, or refused with b. -/
def RdCount (most : Int) (s : ByteArray) (n : Int) (t : ByteArray) (b : Int) : Prop :=
  ∃ n0 t0 b0, Rd s n0 t0 b0 ∧ ((b0 ≠ 0 ∧ n = 0 ∧ t = ⟨#[]⟩ ∧ b = b0) ∨ (b0 = 0 ∧ most < n0 ∧ n = 0 ∧ t = ⟨#[]⟩ ∧ b = 3) ∨ (b0 = 0 ∧ n0 ≤ most ∧ n0 < 0 ∧ n = 0 ∧ t = ⟨#[]⟩ ∧ b = 5) ∨ (b0 = 0 ∧ n0 ≤ most ∧ 0 ≤ n0 ∧ n = n0 ∧ t = t0 ∧ b = 0))

theorem rdCount_some (most : Int) (s : ByteArray) : ∃ n t b, RdCount most s n t b := by
  obtain ⟨n, t, b, h⟩ := rd_some s
  by_cases hb : b = 0
  · by_cases h1 : most < n
    · exact ⟨_, _, _, n, t, b, h, .inr (.inl ⟨hb, h1, rfl, rfl, rfl⟩)⟩
    · by_cases h2 : n < 0
      · exact ⟨_, _, _, n, t, b, h, .inr (.inr (.inl ⟨hb, by omega, h2, rfl, rfl, rfl⟩))⟩
      · exact ⟨_, _, _, n, t, b, h, .inr (.inr (.inr ⟨hb, by omega, by omega, rfl, rfl, rfl⟩))⟩
  · exact ⟨_, _, _, n, t, b, h, .inl ⟨hb, rfl, rfl, rfl⟩⟩

set_option maxHeartbeats 1000000 in
set_option maxRecDepth 100000 in
theorem readCount_any {most : Int} {s : ByteArray} {n : Int} {t : ByteArray} {b : Int} (h : RdCount most s n t b) (hs : s.size ≤ maxLen) (w : World) :
    Calls Try.prog 32 #[.string s, .int .i64 most] w (ThreeS n t b w) := by
  obtain ⟨n0, t0, b0, hr, hc⟩ := h
  have HR := Lib.hid (fun W => ReadNumber_rd hr hs W)
  clear hs
  rcases hc with ⟨h1, rfl, rfl, rfl⟩ | ⟨rfl, h1, rfl, rfl, rfl⟩ | ⟨rfl, h1, h2, rfl, rfl, rfl⟩ | ⟨rfl, h1, h2, rfl, rfl, rfl⟩
  · have hx : (b != 0) = true := by simpa using h1
    clear h1 hr
    go_enter Try.func32, Try.ntmps32
    go_wp2_with (go_at_call 14; (with_reducible refine (HR.out _).mono ?_); rintro e x1 ⟨rfl, hx1⟩)
    go_ret3
    exact ⟨rfl, hx1⟩
  all_goals
    clear hr
    go_enter Try.func32, Try.ntmps32
    go_wp2_with (go_at_call 14; (with_reducible refine (HR.out _).mono ?_); rintro e x1 ⟨rfl, hx1⟩)
    go_ret3
    exact ⟨rfl, hx1⟩

/-- The cells of a block of three that lay there before a call are as they were. -/
theorem three_cells {W x1 : World} {c0 c1 c2 : Value} {T : TypeId} (hb : Below (W.alloc (.cells #[c0, c1, c2] T)).heap.size (W.alloc (.cells #[c0, c1, c2] T)) x1) :
    x1.cell? ⟨W.heap.size, 0, none⟩ = some c0 ∧ x1.cell? ⟨W.heap.size, 1, none⟩ = some c1 ∧ x1.cell? ⟨W.heap.size, 2, none⟩ = some c2 ∧
    x1.frozen? ⟨W.heap.size, 0, none⟩ = false ∧ x1.frozen? ⟨W.heap.size, 1, none⟩ = false ∧ x1.frozen? ⟨W.heap.size, 2, none⟩ = false ∧ W.heap.size < x1.heap.size := by
  have hs := hb.size
  have hs' : (W.alloc (.cells #[c0, c1, c2] T)).heap.size = W.heap.size + 1 := by simp
  refine ⟨?_, ?_, ?_, ?_, ?_, ?_, by omega⟩
  · rw [hb.cell (by show W.heap.size < _; omega)]; simp
  · rw [hb.cell (by show W.heap.size < _; omega)]; simp
  · rw [hb.cell (by show W.heap.size < _; omega)]; simp
  · rw [hb.frozen (by show W.heap.size < _; omega)]; simp
  · rw [hb.frozen (by show W.heap.size < _; omega)]; simp
  · rw [hb.frozen (by show W.heap.size < _; omega)]; simp

theorem count_below {w x1 : World} {o : Obj} (h : Below (w.alloc o).heap.size (w.alloc o) x1) (u0 u1 u2 : Value) (o' : Obj) :
    Below w.heap.size w ((((x1.setCell ⟨w.heap.size, 0, none⟩ u0).setCell ⟨w.heap.size, 1, none⟩ u1).setCell ⟨w.heap.size, 2, none⟩ u2).alloc o') := by
  have hs := h.size
  have hs' : (w.alloc o).heap.size = w.heap.size + 1 := by simp
  exact ((((((Below.refl _ _).alloc (Nat.le_refl _) o).trans (h.mono (by omega))).setCell (Nat.le_refl _) u0).setCell (Nat.le_refl _) u1).setCell (Nat.le_refl _) u2).alloc (by simp; omega) o'

set_option maxHeartbeats 1000000 in
set_option maxRecDepth 100000 in
theorem refCount_any {most : Int} {s : ByteArray} {n : Int} {t : ByteArray} {b : Int} (h : RdCount most s n t b) (hs : s.size ≤ maxLen) (w : World) :
    Calls Try.prog 35 #[.string s, .int .i64 most] w (StructT n t b w) := by
  obtain ⟨n0, t0, b0, hr, hc⟩ := h
  have HR := Lib.hid (fun W => RefRead_rd hr hs W)
  clear hs
  rcases hc with ⟨h1, rfl, rfl, rfl⟩ | ⟨rfl, h1, rfl, rfl, rfl⟩ | ⟨rfl, h1, h2, rfl, rfl, rfl⟩ | ⟨rfl, h1, h2, rfl, rfl, rfl⟩
  · have hx : (b != 0) = true := by simpa using h1
    obtain ⟨rfl, rfl, _, _⟩ := rd_bad hr h1
    clear h1 hr
    go_enter Try.func35, Try.ntmps35
    go_wp2_with fail
    (with_reducible refine (HR.out _).mono ?_)
    rintro e x1 ⟨rfl, hx1⟩
    obtain ⟨c0, c1, c2, f0, f1, f2, hsz⟩ := three_cells hx1
    have HX := Lib.hid hx1
    clear hx1
    go_wp2
    exact bodyPost_ret (v := .agg #[.int .i64 0, .string ⟨#[]⟩, .int .i64 b]) (by simp [results, Try.results35, go_sem, c0, c1, c2, hsz]) rfl ⟨rfl, count_below HX.out _ _ _ _⟩
  · clear hr
    go_enter Try.func35, Try.ntmps35
    go_wp2_with fail
    (with_reducible refine (HR.out _).mono ?_)
    rintro e x1 ⟨rfl, hx1⟩
    obtain ⟨c0, c1, c2, f0, f1, f2, hsz⟩ := three_cells hx1
    have HX := Lib.hid hx1
    clear hx1
    go_wp2
    exact bodyPost_ret (v := .agg #[.int .i64 0, .string ⟨#[]⟩, .int .i64 3]) (by simp [results, Try.results35, go_sem, c0, c1, c2, hsz]) rfl ⟨rfl, count_below HX.out _ _ _ _⟩
  · clear hr
    go_enter Try.func35, Try.ntmps35
    go_wp2_with fail
    (with_reducible refine (HR.out _).mono ?_)
    rintro e x1 ⟨rfl, hx1⟩
    obtain ⟨c0, c1, c2, f0, f1, f2, hsz⟩ := three_cells hx1
    have HX := Lib.hid hx1
    clear hx1
    go_wp2
    exact bodyPost_ret (v := .agg #[.int .i64 0, .string ⟨#[]⟩, .int .i64 5]) (by simp [results, Try.results35, go_sem, c0, c1, c2, hsz]) rfl ⟨rfl, count_below HX.out _ _ _ _⟩
  · clear hr
    go_enter Try.func35, Try.ntmps35
    go_wp2_with fail
    (with_reducible refine (HR.out _).mono ?_)
    rintro e x1 ⟨rfl, hx1⟩
    obtain ⟨c0, c1, c2, f0, f1, f2, hsz⟩ := three_cells hx1
    have HX := Lib.hid hx1
    clear hx1
    go_wp2
    exact bodyPost_ret (v := .agg #[.int .i64 n, .string t, .int .i64 0]) (by simp [results, Try.results35, go_sem, c0, c1, c2, hsz]) rfl ⟨rfl, count_below HX.out _ _ _ _⟩
end Go.Proofs.Ytlhbeckimhfbfaa
