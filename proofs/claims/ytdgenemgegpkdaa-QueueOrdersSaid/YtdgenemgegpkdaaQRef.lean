/-
  Contracts of the reference's Less, May, All and Same, of the law's own few, and of Pop of what it refuses.
-/
import Derived.Test.YtdgenemgegpkdaaQAlive
namespace Go.Proofs.Ytdgenemgegpkdaa.Queue
open Go.ChangeShapes Go.WideShapes Go.ChangeAt Go.RowKit Go.Lib Go.Sort

set_option maxRecDepth 100000 in
set_option maxHeartbeats 1000000 in
theorem refLess_any (a b : Wt) (w : World) : Calls Try.prog 11 #[wv a, wv b] w (BoolB (ltB a b) w) := by
  have HP := Lib.hid (ltB_t (a := a) (b := b))
  have HF := Lib.hid (ltB_f (a := a) (b := b))
  have HB := Lib.hid (below_trans (al w (.cells #[.int .i64 a.c, .int .i64 a.s, .int .i64 a.o] 24)) (al _ (.cells #[.int .i64 b.c, .int .i64 b.s, .int .i64 b.o] 24)))
  generalize ltB a b = m at HP HF ⊢
  unfold wv
  unfold ltP at HP HF
  generalize a.c = ac at *
  generalize a.s = a2 at *
  generalize a.o = ao at *
  generalize b.c = bc at *
  generalize b.s = bs at *
  generalize b.o = bo at *
  by_cases h1 : ac < bc ∨ ac = bc ∧ (a2 < bs ∨ a2 = bs ∧ ao < bo)
  · obtain rfl := HP.out.2 h1
    have HN := Lib.hid h1
    clear h1 HP HF
    go_enter Try.func11, Try.ntmps11
    go_wp2
    all_goals (go_ret; exact ⟨ret_bool (by have := HN.out; simp at *; omega), HB.out⟩)
  · obtain rfl := HF.out.2 h1
    have HN := Lib.hid h1
    clear h1 HP HF
    go_enter Try.func11, Try.ntmps11
    go_wp2
    all_goals (go_ret; exact ⟨ret_bool (by have := HN.out; simp at *; omega), HB.out⟩)

set_option maxRecDepth 100000 in
set_option maxHeartbeats 1000000 in
theorem refMay_any (x : Wt) (w : World) : Calls Try.prog 20 #[wv x] w (BoolB (mayB x) w) := by
  have HP := Lib.hid (mayB_t (x := x))
  have HF := Lib.hid (mayB_f (x := x))
  generalize mayB x = m at HP HF ⊢
  unfold wv
  unfold mayP at HP HF
  generalize x.c = c at HP HF ⊢
  generalize x.s = s at HP HF ⊢
  generalize x.o = o at HP HF ⊢
  by_cases h1 : 0 ≤ c ∧ c ≤ 3 ∧ 1 ≤ s ∧ s ≤ 1099511627776 ∧ 1 ≤ o ∧ o ≤ 1099511627776
  · obtain rfl := HP.out.2 h1
    obtain ⟨a1, a2, a3, a4, a5, a6⟩ := h1
    clear HP HF
    go_enter Try.func20, Try.ntmps20
    go_wp2
    go_ret
    exact ⟨rfl, al _ _⟩
  · obtain rfl := HF.out.2 h1
    have HN := Lib.hid h1
    clear h1 HP HF
    go_enter Try.func20, Try.ntmps20
    go_wp2
    all_goals first
      | (exfalso; have := HN.out; omega)
      | (go_ret; exact ⟨rfl, al _ _⟩)
      | (go_ret; exact ⟨ret_bool (by have := HN.out; simp; omega), al _ _⟩)

set_option maxRecDepth 100000 in
set_option maxHeartbeats 1000000 in
theorem refAll_any {v : Value} {l : List Wt} {w : World} (h : QRow w v l) (_hl : l.length ≤ 1000) : Calls Try.prog 15 #[v] w (BoolB (allB l) w) := by
  obtain ⟨a, cap, rfl⟩ := h.slice
  have H := Lib.hid h
  clear h
  go_enter Try.func15, Try.ntmps15
  go_wp2
  go_loopw [4, 7] (fun _ i wr => ∃ k : Nat, k ≤ l.length ∧ i = .int .i64 k ∧ IdxR l k w wr) (fun _ i _ => l.length - (Go.RowKit.intOf i).toNat)
  case atStart => exact ⟨0, Nat.zero_le _, rfl, by simp, Below.refl _ _⟩
  case round =>
    obtain ⟨k, hk, rfl, hr⟩ := hrel
    have HR := Lib.hid hr
    clear hr
    by_cases hlt : k < l.length
    · obtain ⟨b, off, rfl, hlc, hcap, hb, k0, k1, k2⟩ := (H.out.below HR.out.2).at hlt
      have HN := Lib.hid (fun W => refMay_any l[k] W)
      unfold wv at HN
      have HAT := Lib.hid (all_take hlt)
      have HNA := Lib.hid (not_all hlt)
      have HBA := Lib.hid (below_trans HR.out.2 (al wr (.cells #[.int .i64 l[k].c, .int .i64 l[k].s, .int .i64 l[k].o] 24)))
      cases hm : mayB l[k] with
      | true =>
        rw [hm] at HN HAT
        clear hm HNA
        go_wp2_with (go_at_call 20; (with_reducible refine (HN.out _).mono ?_); rintro e w' ⟨rfl, hz⟩; have HZ := Lib.hid (below_trans HBA.out hz); clear hz)
        go_roundw
        case rel => exact ⟨k + 1, by omega, by go_num, by rw [HAT.out, HR.out.1]; rfl, HZ.out⟩
        case measure => simp [Go.RowKit.intOf]; omega
      | false =>
        rw [hm] at HN
        have HNA2 := Lib.hid (HNA.out hm)
        clear hm HNA HAT
        go_wp2_with (go_at_call 20; (with_reducible refine (HN.out _).mono ?_); rintro e w' ⟨rfl, hz⟩; have HZ := Lib.hid (below_trans HBA.out hz); clear hz)
        go_ret
        exact ⟨ret_bool (by unfold allB; rw [HNA2.out, Bool.and_false]), HZ.out⟩
    · obtain rfl : k = l.length := by omega
      have HA : Hid (l.all mayB = true) := Lib.hid (by have := HR.out.1; rwa [List.take_length] at this)
      go_wp2
      go_ret
      exact ⟨ret_bool (by unfold allB; rw [HA.out, Bool.and_true]; exact decide_eq_decide.2 (by omega)), HR.out.2⟩
end Go.Proofs.Ytdgenemgegpkdaa.Queue
