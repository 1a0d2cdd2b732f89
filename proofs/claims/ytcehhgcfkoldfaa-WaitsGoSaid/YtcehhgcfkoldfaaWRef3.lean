/-
  Contracts of the reference: At, Without, Of.
-/
import Derived.Test.YtcehhgcfkoldfaaWRef1
import Derived.Test.YtcehhgcfkoldfaaWDrop
import Derived.Test.YtcehhgcfkoldfaaWOf
namespace Go.Proofs.Ytcehhgcfkoldfaa.Waits
open Go.ChangeShapes Go.WideShapes Go.ChangeAt Go.RowKit Go.Shelf Go.Lib
open Go.Proofs.Ytcehhgcfkoldfaa.Goods
open Go.Proofs.Ytcehhgcfkoldfaa.Queue (Wt ltB wv QRow OwnQ)

set_option maxRecDepth 100000 in
set_option maxHeartbeats 1000000 in
theorem refAt_any {v : Value} {l : List Ln} {w : World} (h : LRow w v l) (_hl : l.length ≤ 1000) (o : Int) : Calls Try.prog 26 #[v, .int .i64 o] w (IntB (idx (isO o) l) w) := by
  obtain ⟨a, cap, rfl⟩ := h.slice
  have H := Lib.hid h
  clear h
  go_enter Try.func26, Try.ntmps26
  go_wp2
  go_loopw [5, 6, 9] (fun _ _ i wr => ∃ k : Nat, k ≤ l.length ∧ i = .int .i64 k ∧ IdxS (isO o) l k w wr) (fun _ _ i _ => l.length - (Go.RowKit.intOf i).toNat)
  case atStart => exact ⟨0, Nat.zero_le _, rfl, by simp, Below.refl _ _⟩
  case round =>
    obtain ⟨k, hk, rfl, hr⟩ := hrel
    have HR := Lib.hid hr
    clear hr
    by_cases hlt : k < l.length
    · obtain ⟨b, off, rfl, hlc, hcap, hb, k0, k1, k2, k3⟩ := (H.out.below HR.out.2).at hlt
      have HAT := Lib.hid (any_take (p := isO o) hlt)
      have HNA := Lib.hid (idx_at (p := isO o) hlt HR.out.1)
      generalize l[k] = y at *
      have HBA := Lib.hid (al wr (.cells #[.string y.k, .int .i64 y.w.c, .int .i64 y.w.s, .int .i64 y.w.o] 26))
      by_cases h1 : y.w.o = o
      · have h2 : (y.w.o == o) = true := by simpa using h1
        have HN := Lib.hid (HNA.out (decide_eq_true h1))
        clear h1 HAT HNA
        go_wp2_with fail
        go_ret
        exact ⟨ret_int HN.out.symm, below_trans HR.out.2 HBA.out⟩
      · have h2 : (y.w.o == o) = false := by simpa using h1
        have HN : Hid (isO o y = false) := Lib.hid (decide_eq_false h1)
        clear h1 HNA
        go_wp2_with fail
        go_roundw
        case rel => exact ⟨k + 1, by omega, by go_num, by rw [HAT.out, HR.out.1, HN.out]; rfl, below_trans HR.out.2 HBA.out⟩
        case measure => simp [Go.RowKit.intOf]; omega
    · obtain rfl : k = l.length := by omega
      have HA : Hid (idx (isO o) l = -1) := Lib.hid (idx_none (by have := HR.out.1; rwa [List.take_length] at this))
      go_wp2_with fail
      go_ret
      exact ⟨ret_int HA.out.symm, HR.out.2⟩

theorem filter_take {α : Type} {p : α → Bool} {l : List α} {k : Nat} (h : k < l.length) : (l.take (k + 1)).filter p = (l.take k).filter p ++ (if p l[k] = true then [l[k]] else []) := by
  rw [List.take_succ_eq_append_getElem h, List.filter_append, List.filter_cons]
  rfl
def WoR (l : List Ln) (o : Int) (k : Nat) (u : Value) (w W : World) : Prop := OwnL w.heap.size u (withoutL (l.take k) o) W ∧ Below w.heap.size w W
set_option maxRecDepth 100000 in
set_option maxHeartbeats 1000000 in
theorem refWithout_any {v : Value} {l : List Ln} {w : World} (h : LRow w v l) (_hl : l.length ≤ 1000) (o : Int) : Calls Try.prog 27 #[v, .int .i64 o] w (NewL (withoutL l o) w) := by
  obtain ⟨a, cap, rfl⟩ := h.slice
  have H := Lib.hid h
  have HE0 := Lib.hid (OwnL.empty w (Nat.le_refl _))
  have HB0 := Lib.hid (al w (.cells #[] 26))
  clear h
  go_enter Try.func27, Try.ntmps27
  go_wp2
  go_loopw [5, 7, 11] (fun u _ i wr => ∃ k : Nat, k ≤ l.length ∧ i = .int .i64 k ∧ WoR l o k u w wr) (fun _ _ i _ => l.length - (Go.RowKit.intOf i).toNat)
  case atStart => exact ⟨0, Nat.zero_le _, rfl, HE0.out, HB0.out⟩
  case round =>
    obtain ⟨k, hk, rfl, hr⟩ := hrel
    obtain ⟨ua, un, uc, rfl⟩ : ∃ a n c, u5 = .slice a n c := (by obtain ⟨a', c', e⟩ := hr.1.row.slice; exact ⟨a', _, c', e⟩)
    have HR := Lib.hid hr
    clear hr
    by_cases hlt : k < l.length
    · obtain ⟨b, off, rfl, hlc, hcap, hb, k0, k1, k2, k3⟩ := (H.out.below HR.out.2).at hlt
      have HFT : Hid (withoutL (l.take (k + 1)) o = withoutL (l.take k) o ++ (if decide (l[k].w.o ≠ o) = true then [l[k]] else [])) := Lib.hid (filter_take hlt)
      have hlen : (withoutL (l.take k) o).length ≤ 1000 := by
        have h1 := List.length_filter_le (fun y : Ln => decide (y.w.o ≠ o)) (l.take k)
        rw [List.length_take] at h1
        unfold withoutL
        omega
      have HLEN := Lib.hid hlen
      generalize l[k] = y at *
      have hba := al wr (.cells #[.string y.k, .int .i64 y.w.c, .int .i64 y.w.s, .int .i64 y.w.o] 26)
      by_cases h1 : y.w.o = o
      · have h2 : (y.w.o == o) = true := by simpa using h1
        have h3 : (y.w.o != o) = false := by simpa using h1
        have HR2 := Lib.hid (show WoR l o (k + 1) (.slice ua un uc) w _ from ⟨by rw [HFT.out, if_neg (by simpa using h1), List.append_nil]; exact HR.out.1.below hba, below_trans HR.out.2 hba⟩)
        clear h1 hba hlen
        go_wp2_with fail
        go_roundw
        case rel => exact ⟨k + 1, by omega, by go_num, HR2.out⟩
        case measure => simp [Go.RowKit.intOf]; omega
      · have h2 : (y.w.o == o) = false := by simpa using h1
        have h3 : (y.w.o != o) = true := by simpa using h1
        have hbb := al (wr.alloc (.cells #[.string y.k, .int .i64 y.w.c, .int .i64 y.w.s, .int .i64 y.w.o] 26)) (.cells #[.string y.k, .int .i64 y.w.c, .int .i64 y.w.s, .int .i64 y.w.o] 26)
        have hone := LRow.one (wr.alloc (.cells #[.string y.k, .int .i64 y.w.c, .int .i64 y.w.s, .int .i64 y.w.o] 26)) y
        simp only [World.size_alloc] at hone
        have HO2 := Lib.hid ((HR.out.1.below hba).below hbb)
        have HW2 := Lib.hid (below_trans HR.out.2 (below_trans hba hbb))
        have HONE := Lib.hid hone
        have hsz := HW2.out.size
        have HFT2 : Hid (withoutL (l.take (k + 1)) o = withoutL (l.take k) o ++ [y]) := Lib.hid (by rw [HFT.out, if_pos (by simpa using h1)])
        clear hba hbb hone h1 hlen
        go_wp2_with (at_builtin; refine wpList_append_L rfl _ _ rfl w.heap.size _ (withoutL (l.take k) o) rfl HO2.out _ [y] rfl HONE.out (by have := HLEN.out; omega) (by simp) hsz ?_)
        intro v' w3 hown hbel _
        obtain ⟨va, vn, vc, rfl⟩ : ∃ a n c, v' = .slice a n c := (by obtain ⟨a', c', e⟩ := hown.row.slice; exact ⟨a', _, c', e⟩)
        have HR3 := Lib.hid (show WoR l o (k + 1) (.slice va vn vc) w w3 from ⟨by rw [HFT2.out]; exact hown, HW2.out.trans hbel⟩)
        clear hown hbel
        go_wp2_with fail
        go_roundw
        case rel => exact ⟨k + 1, by omega, by go_num, HR3.out⟩
        case measure => simp [intOf]; omega
    · obtain rfl : k = l.length := by omega
      have HL : Hid (withoutL (l.take l.length) o = withoutL l o) := Lib.hid (by rw [List.take_length])
      go_wp2_with fail
      go_ret
      exact ⟨_, rfl, by rw [← HL.out]; exact HR.out.1, HR.out.2⟩

/-- New waits are returned. -/
def WNewE (l : List Wt) (w : World) (e : Ending) (w' : World) : Prop := ∃ v, e = .returned v ∧ QRow w' v l ∧ Below w.heap.size w w'
def OfW (l : List Ln) (s : ByteArray) (k : Nat) (u : Value) (w W : World) : Prop := OwnQ w.heap.size u (ofL (l.take k) s) W ∧ Below w.heap.size w W
set_option maxRecDepth 100000 in
set_option maxHeartbeats 1000000 in
theorem refOf_any {v : Value} {l : List Ln} {w : World} (h : LRow w v l) (_hl : l.length ≤ 1000) (s : ByteArray) : Calls Try.prog 25 #[v, .string s] w (WNewE (ofL l s) w) := by
  obtain ⟨a, cap, rfl⟩ := h.slice
  have H := Lib.hid h
  have HE0 : Hid (OwnQ w.heap.size (.slice (some ⟨w.heap.size, 0, none⟩) 0 0) [] (w.alloc (.cells #[] 24))) := Lib.hid (Queue.own_none w rfl)
  have HB0 := Lib.hid (al w (.cells #[] 24))
  clear h
  go_enter Try.func25, Try.ntmps25
  go_wp2
  go_loopw [5, 7, 11] (fun u _ i wr => ∃ k : Nat, k ≤ l.length ∧ i = .int .i64 k ∧ OfW l s k u w wr) (fun _ _ i _ => l.length - (Go.RowKit.intOf i).toNat)
  case atStart => exact ⟨0, Nat.zero_le _, rfl, HE0.out, HB0.out⟩
  case round =>
    obtain ⟨k, hk, rfl, hr⟩ := hrel
    obtain ⟨ua, un, uc, rfl⟩ : ∃ a n c, u5 = .slice a n c := (by obtain ⟨a', c', e⟩ := hr.1.row.slice; exact ⟨a', _, c', e⟩)
    have HR := Lib.hid hr
    clear hr
    by_cases hlt : k < l.length
    · obtain ⟨b, off, rfl, hlc, hcap, hb, k0, k1, k2, k3⟩ := (H.out.below HR.out.2).at hlt
      have HFT : Hid (ofL (l.take (k + 1)) s = ofL (l.take k) s ++ (if decide (l[k].k = s) = true then [l[k].w] else [])) := Lib.hid (by
        unfold ofL
        rw [filter_take hlt, List.map_append]
        split <;> rfl)
      have hlen : (ofL (l.take k) s).length ≤ 1000 := by
        have h1 := List.length_filter_le (fun y : Ln => decide (y.k = s)) (l.take k)
        rw [List.length_take] at h1
        unfold ofL
        rw [List.length_map]
        omega
      have HLEN := Lib.hid hlen
      generalize l[k] = y at *
      have hba := al wr (.cells #[.string y.k, .int .i64 y.w.c, .int .i64 y.w.s, .int .i64 y.w.o] 26)
      by_cases h1 : y.k = s
      · have kk := bytes_yes h1
        have hbb := al (wr.alloc (.cells #[.string y.k, .int .i64 y.w.c, .int .i64 y.w.s, .int .i64 y.w.o] 26)) (.cells #[.int .i64 y.w.c, .int .i64 y.w.s, .int .i64 y.w.o] 24)
        have hone := Queue.row_one (wr.alloc (.cells #[.string y.k, .int .i64 y.w.c, .int .i64 y.w.s, .int .i64 y.w.o] 26)) y.w
        simp only [World.size_alloc] at hone
        have HO2 := Lib.hid ((HR.out.1.below hba).below hbb)
        have HW2 := Lib.hid (below_trans HR.out.2 (below_trans hba hbb))
        have HONE := Lib.hid hone
        have hsz := HW2.out.size
        have HFT2 : Hid (ofL (l.take (k + 1)) s = ofL (l.take k) s ++ [y.w]) := Lib.hid (by rw [HFT.out, if_pos (by simpa using h1)])
        clear hba hbb hone h1 hlen
        go_wp2_with (at_builtin; refine Queue.wpList_append_waits rfl _ _ rfl w.heap.size _ (ofL (l.take k) s) rfl HO2.out _ _ [y.w] 1 rfl rfl HONE.out HLEN.out (by simp) hsz ?_)
        intro v' w3 hown hbel
        obtain ⟨va, vn, vc, rfl⟩ : ∃ a n c, v' = .slice a n c := (by obtain ⟨a', c', e⟩ := hown.row.slice; exact ⟨a', _, c', e⟩)
        have HR3 := Lib.hid (show OfW l s (k + 1) (.slice va vn vc) w w3 from ⟨by rw [HFT2.out]; exact hown, HW2.out.trans hbel⟩)
        clear hown hbel
        go_wp2_with fail
        go_roundw
        case rel => exact ⟨k + 1, by omega, by go_num, HR3.out⟩
        case measure => simp [intOf]; omega
      · have kk := bytes_no h1
        have HR2 := Lib.hid (show OfW l s (k + 1) (.slice ua un uc) w _ from ⟨by rw [HFT.out, if_neg (by simpa using h1), List.append_nil]; exact HR.out.1.below hba, below_trans HR.out.2 hba⟩)
        clear h1 hba hlen
        go_wp2_with fail
        go_roundw
        case rel => exact ⟨k + 1, by omega, by go_num, HR2.out⟩
        case measure => simp [Go.RowKit.intOf]; omega
    · obtain rfl : k = l.length := by omega
      have HL : Hid (ofL (l.take l.length) s = ofL l s) := Lib.hid (by rw [List.take_length])
      go_wp2_with fail
      go_ret
      exact ⟨_, rfl, by rw [← HL.out]; exact HR.out.1.row, HR.out.2⟩
end Go.Proofs.Ytcehhgcfkoldfaa.Waits
