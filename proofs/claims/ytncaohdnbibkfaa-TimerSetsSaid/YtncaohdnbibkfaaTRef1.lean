/-
  Contracts of the reference: Clear, Due, and Same of the same.
-/
import Derived.Test.YtncaohdnbibkfaaTCalls
namespace Go.Proofs.Ytncaohdnbibkfaa.Timer
open Go.ChangeShapes Go.WideShapes Go.ChangeAt Go.RowKit Go.Shelf Go.Lib
open Go.Proofs.Ytncaohdnbibkfaa.Queue

/-- A new row is returned. -/
def RefE (l : List Wt) (w : World) (e : Ending) (w' : World) : Prop := ∃ v, e = .returned v ∧ OwnM w.heap.size v l w' ∧ Below w.heap.size w w'
def FilR (p : Wt → Bool) (l : List Wt) (k : Nat) (u : Value) (w W : World) : Prop := OwnM w.heap.size u ((l.take k).filter p) W ∧ Below w.heap.size w W

set_option maxRecDepth 100000 in
set_option maxHeartbeats 1000000 in
theorem refClear_any {v : Value} {l : List Wt} {w : World} (h : QRow w v l) (hl : l.length ≤ 1000) (kd od : Int) : Calls Try.prog 15 #[v, .int .i64 kd, .int .i64 od] w (RefE (clearL kd od l) w) := by
  obtain ⟨a, cap, rfl⟩ := h.slice
  have H := Lib.hid h
  have HL := Lib.hid hl
  have HE0 := Lib.hid (OwnM.empty w rfl)
  have HB0 := Lib.hid (al w (.cells #[] 24))
  clear h hl
  go_enter Try.func15, Try.ntmps15
  go_wp2
  go_loopw [7, 9, 13] (fun u _ i wr => ∃ k : Nat, k ≤ l.length ∧ i = .int .i64 k ∧ FilR (fun y => !keyB kd od y) l k u w wr) (fun _ _ i _ => l.length - (Go.RowKit.intOf i).toNat)
  case atStart => exact ⟨0, Nat.zero_le _, rfl, HE0.out, HB0.out⟩
  case round =>
    obtain ⟨k, hk, rfl, hr⟩ := hrel
    obtain ⟨ua, un, uc, rfl⟩ : ∃ a n c, u7 = .slice a n c := (by obtain ⟨a', c', e⟩ := hr.1.row.slice; exact ⟨a', _, c', e⟩)
    have HR := Lib.hid hr
    clear hr
    by_cases hlt : k < l.length
    · obtain ⟨b, off, rfl, hlc, hcap, hb, k0, k1, k2⟩ := (H.out.below HR.out.2).at hlt
      have HFT := Lib.hid (filter_take (p := fun y => !keyB kd od y) hlt)
      have HFL := Lib.hid (filter_len (fun y => !keyB kd od y) l k)
      generalize l[k] = y at *
      have hba := al wr (.cells #[.int .i64 y.c, .int .i64 y.s, .int .i64 y.o] 24)
      by_cases h1 : y.s = kd ∧ y.o = od
      · have h2 : (y.s != kd) = false := by simpa using h1.1
        have h3 : (y.o != od) = false := by simpa using h1.2
        have HR2 := Lib.hid (show FilR (fun y => !keyB kd od y) l (k + 1) (.slice ua un uc) w _ from ⟨by rw [HFT.out, keyB_t.2 h1, if_neg (by simp), List.append_nil]; exact HR.out.1.below hba, below_trans HR.out.2 hba⟩)
        clear h1 hba
        go_wp2_with fail
        go_roundw
        case rel => exact ⟨k + 1, by omega, by go_num, HR2.out⟩
        case measure => simp [Go.RowKit.intOf]; omega
      · have hbb := al (wr.alloc (.cells #[.int .i64 y.c, .int .i64 y.s, .int .i64 y.o] 24)) (.cells #[.int .i64 y.c, .int .i64 y.s, .int .i64 y.o] 24)
        have hone := row_M (wr.alloc (.cells #[.int .i64 y.c, .int .i64 y.s, .int .i64 y.o] 24)) y
        simp only [World.size_alloc] at hone
        have HO2 := Lib.hid ((HR.out.1.below hba).below hbb)
        have HW2 := Lib.hid (below_trans HR.out.2 (below_trans hba hbb))
        have HONE := Lib.hid hone
        have hsz := HW2.out.size
        have HFT2 : Hid ((l.take (k + 1)).filter (fun y => !keyB kd od y) = (l.take k).filter (fun y => !keyB kd od y) ++ [y]) := Lib.hid (by rw [HFT.out, keyB_f.2 h1, if_pos (by simp)])
        have h2 : (y.s != kd) = true ∨ ((y.s != kd) = false ∧ (y.o != od) = true) := by
          by_cases e : y.s = kd
          · exact .inr ⟨by simpa using e, by simpa using (fun e2 => h1 ⟨e, e2⟩)⟩
          · exact .inl (by simpa using e)
        clear hba hbb hone h1
        rcases h2 with h2 | ⟨h2, h3⟩
        all_goals (
          go_wp2_with (at_builtin; refine wpList_append_Mo rfl _ _ rfl w.heap.size _ ((l.take k).filter (fun y => !keyB kd od y)) rfl HO2.out _ [y] rfl HONE.out (by have := HFL.out; have := HL.out; omega) (by simp) hsz ?_)
          intro v' w3 hown hbel _
          obtain ⟨va, vn, vc, rfl⟩ : ∃ a n c, v' = .slice a n c := (by obtain ⟨a', c', e⟩ := hown.row.slice; exact ⟨a', _, c', e⟩)
          have HR3 := Lib.hid (show FilR (fun y => !keyB kd od y) l (k + 1) (.slice va vn vc) w w3 from ⟨by rw [HFT2.out]; exact hown, HW2.out.trans hbel⟩)
          clear hown hbel
          go_wp2_with fail
          go_roundw
          case rel => exact ⟨k + 1, by omega, by go_num, HR3.out⟩
          case measure => simp [intOf]; omega)
    · obtain rfl : k = l.length := by omega
      have HLL : Hid ((l.take l.length).filter (fun y => !keyB kd od y) = clearL kd od l) := Lib.hid (by rw [List.take_length]; rfl)
      go_wp2_with fail
      go_ret
      exact ⟨_, rfl, by rw [← HLL.out]; exact HR.out.1, HR.out.2⟩

/-- Those of which it is as asked. -/
def dueB (t : Int) (d : Bool) (l : List Wt) : List Wt := l.filter (fun y => decide (y.c ≤ t) == d)
theorem dueB_t (t : Int) (l : List Wt) : dueB t true l = dueL t l := by
  unfold dueB dueL
  congr 1
  funext y
  cases decide (y.c ≤ t) <;> rfl
theorem dueB_f (t : Int) (l : List Wt) : dueB t false l = restL t l := by
  unfold dueB restL
  congr 1
  funext y
  cases decide (y.c ≤ t) <;> rfl
set_option maxRecDepth 100000 in
set_option maxHeartbeats 1000000 in
theorem refDue_any {v : Value} {l : List Wt} {w : World} (h : QRow w v l) (hl : l.length ≤ 1000) (t : Int) (d : Bool) : Calls Try.prog 16 #[v, .int .i64 t, .bool d] w (RefE (dueB t d l) w) := by
  obtain ⟨a, cap, rfl⟩ := h.slice
  have H := Lib.hid h
  have HL := Lib.hid hl
  have HE0 := Lib.hid (OwnM.empty w rfl)
  have HB0 := Lib.hid (al w (.cells #[] 24))
  clear h hl
  go_enter Try.func16, Try.ntmps16
  go_wp2
  go_loopw [7, 9, 13] (fun u _ i wr => ∃ k : Nat, k ≤ l.length ∧ i = .int .i64 k ∧ FilR (fun y => decide (y.c ≤ t) == d) l k u w wr) (fun _ _ i _ => l.length - (Go.RowKit.intOf i).toNat)
  case atStart => exact ⟨0, Nat.zero_le _, rfl, HE0.out, HB0.out⟩
  case round =>
    obtain ⟨k, hk, rfl, hr⟩ := hrel
    obtain ⟨ua, un, uc, rfl⟩ : ∃ a n c, u7 = .slice a n c := (by obtain ⟨a', c', e⟩ := hr.1.row.slice; exact ⟨a', _, c', e⟩)
    have HR := Lib.hid hr
    clear hr
    by_cases hlt : k < l.length
    · obtain ⟨b, off, rfl, hlc, hcap, hb, k0, k1, k2⟩ := (H.out.below HR.out.2).at hlt
      have HFT := Lib.hid (filter_take (p := fun y => decide (y.c ≤ t) == d) hlt)
      have HFL := Lib.hid (filter_len (fun y => decide (y.c ≤ t) == d) l k)
      generalize l[k] = y at *
      have hba := al wr (.cells #[.int .i64 y.c, .int .i64 y.s, .int .i64 y.o] 24)
      cases hm : (decide (y.c ≤ t) == d) with
      | false =>
        rw [hm] at HFT
        have HR2 := Lib.hid (show FilR (fun y => decide (y.c ≤ t) == d) l (k + 1) (.slice ua un uc) w _ from ⟨by rw [HFT.out, if_neg (by simp), List.append_nil]; exact HR.out.1.below hba, below_trans HR.out.2 hba⟩)
        clear hba
        go_wp2_with fail
        go_roundw
        case rel => exact ⟨k + 1, by omega, by go_num, HR2.out⟩
        case measure => simp [Go.RowKit.intOf]; omega
      | true =>
        rw [hm] at HFT
        have hbb := al (wr.alloc (.cells #[.int .i64 y.c, .int .i64 y.s, .int .i64 y.o] 24)) (.cells #[.int .i64 y.c, .int .i64 y.s, .int .i64 y.o] 24)
        have hone := row_M (wr.alloc (.cells #[.int .i64 y.c, .int .i64 y.s, .int .i64 y.o] 24)) y
        simp only [World.size_alloc] at hone
        have HO2 := Lib.hid ((HR.out.1.below hba).below hbb)
        have HW2 := Lib.hid (below_trans HR.out.2 (below_trans hba hbb))
        have HONE := Lib.hid hone
        have hsz := HW2.out.size
        have HFT2 : Hid ((l.take (k + 1)).filter (fun y => decide (y.c ≤ t) == d) = (l.take k).filter (fun y => decide (y.c ≤ t) == d) ++ [y]) := Lib.hid (by rw [HFT.out, if_pos rfl])
        clear hba hbb hone
        go_wp2_with (at_builtin; refine wpList_append_Mo rfl _ _ rfl w.heap.size _ ((l.take k).filter (fun y => decide (y.c ≤ t) == d)) rfl HO2.out _ [y] rfl HONE.out (by have := HFL.out; have := HL.out; omega) (by simp) hsz ?_)
        intro v' w3 hown hbel _
        obtain ⟨va, vn, vc, rfl⟩ : ∃ a n c, v' = .slice a n c := (by obtain ⟨a', c', e⟩ := hown.row.slice; exact ⟨a', _, c', e⟩)
        have HR3 := Lib.hid (show FilR (fun y => decide (y.c ≤ t) == d) l (k + 1) (.slice va vn vc) w w3 from ⟨by rw [HFT2.out]; exact hown, HW2.out.trans hbel⟩)
        clear hown hbel
        go_wp2_with fail
        go_roundw
        case rel => exact ⟨k + 1, by omega, by go_num, HR3.out⟩
        case measure => simp [intOf]; omega
    · obtain rfl : k = l.length := by omega
      have HLL : Hid ((l.take l.length).filter (fun y => decide (y.c ≤ t) == d) = dueB t d l) := Lib.hid (by rw [List.take_length]; rfl)
      go_wp2_with fail
      go_ret
      exact ⟨_, rfl, by rw [← HLL.out]; exact HR.out.1, HR.out.2⟩

set_option maxRecDepth 100000 in
set_option maxHeartbeats 1000000 in
theorem Same_yes {v u : Value} {l : List Wt} {w : World} (h : QRow w v l) (hu : QRow w u l) : Calls Try.prog 14 #[v, u] w (BoolB true w) := by
  obtain ⟨a, cap, rfl⟩ := h.slice
  obtain ⟨a', cap', rfl⟩ := hu.slice
  have H := Lib.hid h
  have HU := Lib.hid hu
  clear h hu
  go_enter Try.func14, Try.ntmps14
  go_wp2
  go_loopw [5, 13] (fun _ i wr => ∃ k : Nat, k ≤ l.length ∧ i = .int .i64 k ∧ Below w.heap.size w wr) (fun _ i _ => l.length - (Go.RowKit.intOf i).toNat)
  case atStart => exact ⟨0, Nat.zero_le _, rfl, Below.refl _ _⟩
  case round =>
    obtain ⟨k, hk, rfl, hr⟩ := hrel
    have HR := Lib.hid hr
    clear hr
    by_cases hlt : k < l.length
    · obtain ⟨b, off, rfl, hlc, hcap, hb, k0, k1, k2⟩ := (H.out.below HR.out).at hlt
      obtain ⟨b', off', rfl, hlc', hcap', hb', j0, j1, j2⟩ := (HU.out.below HR.out).at hlt
      go_upto_region 6 with fail
      go_region
      go_wp2_with fail
      go_roundw
      case rel => exact ⟨k + 1, by omega, by go_num, below_trans HR.out (dr _)⟩
      case measure => simp [Go.RowKit.intOf]; omega
    · obtain rfl : k = l.length := by omega
      go_wp2
      go_ret
      exact ⟨rfl, HR.out⟩
end Go.Proofs.Ytncaohdnbibkfaa.Timer
