/-
  The library's IndexFunc and ContainsFunc over rules, and over texts, for any function value.
-/
import Derived.Test.YtjmmijobdcepmaaGRow
namespace Go.Proofs.Ytjmmijobdcepmaa.Goods
open Go.ChangeShapes Go.WideShapes Go.ChangeAt Go.RowKit

/-- A place is returned, that of one of which p holds, or none. -/
def IdxE {α : Type} (p : α → Bool) (l : List α) (w : World) (e : Ending) (w' : World) : Prop := ∃ z : Int, e = .returned (.int .i64 z) ∧ (0 ≤ z ↔ l.any p = true) ∧ Below w.heap.size w w'
def IdxR {α : Type} (p : α → Bool) (l : List α) (k : Nat) (w : World) (W : World) : Prop := (l.take k).any p = false ∧ Below w.heap.size w W
/-- A function value's function is entered. -/
def Enters (n : Nat) : Prop := ∀ args w, (callFunc n args).run Try.prog w = .ok (.enter n args) w

set_option maxRecDepth 100000 in
set_option maxHeartbeats 1000000 in
theorem IndexFuncS_any {v : Value} {l : List Sb} {w : World} (n : Nat) (he : Enters n) (g : Nat) (p : Sb → Bool) (hp : ∀ x ∈ l, ∀ W, Below w.heap.size w W → Calls Try.prog n #[sv x, .pointer (some ⟨g, 0, none⟩)] W (BoolB (p x) W)) (h : GRow w v l) (_hl : l.length ≤ 1000) : Calls Try.prog 97 #[v, .func (.func n) #[] #[.pointer (some ⟨g, 0, none⟩)]] w (IdxE p l w) := by
  obtain ⟨a, cap, rfl⟩ := h.slice
  have H := Lib.hid h
  have HP := Lib.hid hp
  unfold Enters at he
  clear h hp
  go_enter Try.func97, Try.ntmps97
  go_wp2
  go_loopw [5, 8] (fun _ i wr => ∃ k : Nat, k ≤ l.length ∧ i = .int .i64 k ∧ IdxR p l k w wr) (fun _ i _ => l.length - (Go.RowKit.intOf i).toNat)
  case atStart => exact ⟨0, Nat.zero_le _, rfl, by simp, Below.refl _ _⟩
  case round =>
    obtain ⟨k, hk, rfl, hr⟩ := hrel
    have HR := Lib.hid hr
    clear hr
    by_cases hlt : k < l.length
    · obtain ⟨b, off, rfl, hlc, hcap, hb, k0, k1, k2, k3, k4⟩ := (H.out.below HR.out.2).at hlt
      have hn := HP.out l[k] (List.getElem_mem hlt) wr HR.out.2
      unfold sv at hn
      have HAT := Lib.hid (any_take (p := p) hlt)
      have HNA := Lib.hid (any_at (p := p) hlt)
      cases hm : p l[k] with
      | false =>
        rw [hm] at hn HAT
        have HN := Lib.hid hn
        clear hm HNA hn
        go_wp2_with fail
        (with_reducible refine HN.out.mono ?_)
        rintro e w' ⟨rfl, hz⟩
        have HZ := Lib.hid (below_trans HR.out.2 hz)
        clear hz
        go_wp2_with fail
        go_roundw
        case rel => exact ⟨k + 1, by omega, by go_num, by rw [HAT.out, HR.out.1]; rfl, HZ.out⟩
        case measure => simp [Go.RowKit.intOf]; omega
      | true =>
        rw [hm] at hn
        have HN := Lib.hid hn
        have HNA2 := Lib.hid (HNA.out hm)
        clear hm HNA hn HAT
        go_wp2_with fail
        (with_reducible refine HN.out.mono ?_)
        rintro e w' ⟨rfl, hz⟩
        have HZ := Lib.hid (below_trans HR.out.2 hz)
        clear hz
        go_wp2_with fail
        go_ret
        exact ⟨k, rfl, ⟨fun _ => HNA2.out, fun _ => by omega⟩, HZ.out⟩
    · obtain rfl : k = l.length := by omega
      have HA : Hid (l.any p = false) := Lib.hid (by have := HR.out.1; rwa [List.take_length] at this)
      go_wp2
      go_ret
      exact ⟨-1, rfl, ⟨fun h => by omega, fun h => by rw [HA.out] at h; cases h⟩, HR.out.2⟩

set_option maxRecDepth 100000 in
theorem ContainsFuncS_any {v : Value} {l : List Sb} {w : World} (n : Nat) (he : Enters n) (g : Nat) (p : Sb → Bool) (hp : ∀ x ∈ l, ∀ W, Below w.heap.size w W → Calls Try.prog n #[sv x, .pointer (some ⟨g, 0, none⟩)] W (BoolB (p x) W)) (h : GRow w v l) (hl : l.length ≤ 1000) : Calls Try.prog 88 #[v, .func (.func n) #[] #[.pointer (some ⟨g, 0, none⟩)]] w (BoolB (l.any p) w) := by
  have HI := Lib.hid (IndexFuncS_any n he g p hp h hl)
  obtain ⟨a, cap, rfl⟩ := h.slice
  clear h hp he
  go_enter Try.func88, Try.ntmps88
  go_wp2_with fail
  (with_reducible refine HI.out.mono ?_)
  rintro e w' ⟨z, rfl, hz, hb⟩
  have HZ := Lib.hid hz
  have HB := Lib.hid hb
  clear hz hb HI
  go_wp2_with fail
  go_ret
  refine ⟨ret_bool ?_, HB.out⟩
  cases hm : l.any p with
  | true => exact decide_eq_true (HZ.out.2 hm)
  | false => exact decide_eq_false (fun h => by rw [HZ.out.1 h] at hm; cases hm)

set_option maxRecDepth 100000 in
set_option maxHeartbeats 1000000 in
theorem IndexFuncT_any {v : Value} {l : List ByteArray} {w : World} (n : Nat) (he : Enters n) (g : Nat) (p : ByteArray → Bool) (hp : ∀ x ∈ l, ∀ W, Below w.heap.size w W → Calls Try.prog n #[.string x, .pointer (some ⟨g, 0, none⟩)] W (BoolB (p x) W)) (h : TRow w v l) (_hl : l.length ≤ 1000) : Calls Try.prog 96 #[v, .func (.func n) #[] #[.pointer (some ⟨g, 0, none⟩)]] w (IdxE p l w) := by
  obtain ⟨a, cap, rfl⟩ := h.slice
  have H := Lib.hid h
  have HP := Lib.hid hp
  unfold Enters at he
  clear h hp
  go_enter Try.func96, Try.ntmps96
  go_wp2
  go_loopw [5, 8] (fun _ i wr => ∃ k : Nat, k ≤ l.length ∧ i = .int .i64 k ∧ IdxR p l k w wr) (fun _ i _ => l.length - (Go.RowKit.intOf i).toNat)
  case atStart => exact ⟨0, Nat.zero_le _, rfl, by simp, Below.refl _ _⟩
  case round =>
    obtain ⟨k, hk, rfl, hr⟩ := hrel
    have HR := Lib.hid hr
    clear hr
    by_cases hlt : k < l.length
    · obtain ⟨b, off, rfl, hlc, hcap, hb, k0⟩ := (H.out.below HR.out.2).at hlt
      have hn := HP.out l[k] (List.getElem_mem hlt) wr HR.out.2
      have HAT := Lib.hid (any_take (p := p) hlt)
      have HNA := Lib.hid (any_at (p := p) hlt)
      cases hm : p l[k] with
      | false =>
        rw [hm] at hn HAT
        have HN := Lib.hid hn
        clear hm HNA hn
        go_wp2_with fail
        (with_reducible refine HN.out.mono ?_)
        rintro e w' ⟨rfl, hz⟩
        have HZ := Lib.hid (below_trans HR.out.2 hz)
        clear hz
        go_wp2_with fail
        go_roundw
        case rel => exact ⟨k + 1, by omega, by go_num, by rw [HAT.out, HR.out.1]; rfl, HZ.out⟩
        case measure => simp [Go.RowKit.intOf]; omega
      | true =>
        rw [hm] at hn
        have HN := Lib.hid hn
        have HNA2 := Lib.hid (HNA.out hm)
        clear hm HNA hn HAT
        go_wp2_with fail
        (with_reducible refine HN.out.mono ?_)
        rintro e w' ⟨rfl, hz⟩
        have HZ := Lib.hid (below_trans HR.out.2 hz)
        clear hz
        go_wp2_with fail
        go_ret
        exact ⟨k, rfl, ⟨fun _ => HNA2.out, fun _ => by omega⟩, HZ.out⟩
    · obtain rfl : k = l.length := by omega
      have HA : Hid (l.any p = false) := Lib.hid (by have := HR.out.1; rwa [List.take_length] at this)
      go_wp2
      go_ret
      exact ⟨-1, rfl, ⟨fun h => by omega, fun h => by rw [HA.out] at h; cases h⟩, HR.out.2⟩

set_option maxRecDepth 100000 in
theorem ContainsFuncT_any {v : Value} {l : List ByteArray} {w : World} (n : Nat) (he : Enters n) (g : Nat) (p : ByteArray → Bool) (hp : ∀ x ∈ l, ∀ W, Below w.heap.size w W → Calls Try.prog n #[.string x, .pointer (some ⟨g, 0, none⟩)] W (BoolB (p x) W)) (h : TRow w v l) (hl : l.length ≤ 1000) : Calls Try.prog 85 #[v, .func (.func n) #[] #[.pointer (some ⟨g, 0, none⟩)]] w (BoolB (l.any p) w) := by
  have HI := Lib.hid (IndexFuncT_any n he g p hp h hl)
  obtain ⟨a, cap, rfl⟩ := h.slice
  clear h hp he
  go_enter Try.func85, Try.ntmps85
  go_wp2_with fail
  (with_reducible refine HI.out.mono ?_)
  rintro e w' ⟨z, rfl, hz, hb⟩
  have HZ := Lib.hid hz
  have HB := Lib.hid hb
  clear hz hb HI
  go_wp2_with fail
  go_ret
  refine ⟨ret_bool ?_, HB.out⟩
  cases hm : l.any p with
  | true => exact decide_eq_true (HZ.out.2 hm)
  | false => exact decide_eq_false (fun h => by rw [HZ.out.1 h] at hm; cases hm)
end Go.Proofs.Ytjmmijobdcepmaa.Goods
