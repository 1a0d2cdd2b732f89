/-
  The library's IndexFunc and ContainsFunc over lines, for function values of two kinds: a closure, and a method bound to a number; whether another line has the same order or time (clashes), and where an order's line stands.
-/
import Derived.Test.YtcehhgcfkoldfaaWBelow
namespace Go.Proofs.Ytcehhgcfkoldfaa.Waits
open Go.ChangeShapes Go.WideShapes Go.ChangeAt Go.RowKit Go.Shelf
open Go.Proofs.Ytcehhgcfkoldfaa.Goods
open Go.Proofs.Ytcehhgcfkoldfaa.Queue (Wt ltB wv QRow)

/-- The place of the first one of which p holds, or -1. -/
def idx {α : Type} (p : α → Bool) (l : List α) : Int := match l.findIdx? p with
  | some i => i
  | none => -1
theorem idx_at {α : Type} {p : α → Bool} {l : List α} {k : Nat} (hk : k < l.length) (h : (l.take k).any p = false) (hp : p l[k] = true) : idx p l = k := by
  have : l.findIdx? p = some k := by
    rw [List.findIdx?_eq_some_iff_getElem]
    refine ⟨hk, hp, fun j hj => ?_⟩
    rw [List.any_eq_false] at h
    simpa using h l[j] (List.mem_take_iff_getElem.2 ⟨j, by omega, rfl⟩)
  unfold idx
  rw [this]
theorem idx_none {α : Type} {p : α → Bool} {l : List α} (h : l.any p = false) : idx p l = -1 := by
  have : l.findIdx? p = none := by
    rw [List.findIdx?_eq_none_iff]
    intro x hx
    rw [List.any_eq_false] at h
    simpa using h x hx
  unfold idx
  rw [this]
theorem idx_any {α : Type} {p : α → Bool} {l : List α} : 0 ≤ idx p l ↔ l.any p = true := by
  cases h : l.any p with
  | false => rw [idx_none h]; exact ⟨fun h => by omega, fun h => by cases h⟩
  | true =>
    refine ⟨fun _ => rfl, fun _ => ?_⟩
    unfold idx
    cases hc : l.findIdx? p with
    | some i => simp
    | none =>
      rw [List.findIdx?_eq_none_iff] at hc
      obtain ⟨x, hx, hp⟩ := List.any_eq_true.1 h
      rw [hc x hx] at hp
      cases hp
theorem idx_get {α : Type} {p : α → Bool} {l : List α} (h : 0 ≤ idx p l) : ∃ (i : Nat) (hi : i < l.length), idx p l = i ∧ p l[i] = true := by
  unfold idx at *
  cases hc : l.findIdx? p with
  | some i =>
    obtain ⟨hi, hp, _⟩ := List.findIdx?_eq_some_iff_getElem.1 hc
    exact ⟨i, hi, rfl, hp⟩
  | none => rw [hc] at h; exact absurd h (by decide)
def IdxS {α : Type} (p : α → Bool) (l : List α) (k : Nat) (w : World) (W : World) : Prop := (l.take k).any p = false ∧ Below w.heap.size w W

set_option maxRecDepth 100000 in
set_option maxHeartbeats 1000000 in
theorem IndexFuncL_any {v : Value} {l : List Ln} {w : World} (n : Nat) (he : Goods.Enters n) (g : Nat) (p : Ln → Bool) (hp : ∀ x ∈ l, ∀ W, Below w.heap.size w W → Calls Try.prog n #[lv x, .pointer (some ⟨g, 0, none⟩)] W (BoolB (p x) W)) (h : LRow w v l) (_hl : l.length ≤ 1000) : Calls Try.prog 50 #[v, .func (.func n) #[] #[.pointer (some ⟨g, 0, none⟩)]] w (IntB (idx p l) w) := by
  obtain ⟨a, cap, rfl⟩ := h.slice
  have H := Lib.hid h
  have HP := Lib.hid hp
  unfold Goods.Enters at he
  clear h hp
  go_enter Try.func50, Try.ntmps50
  go_wp2
  go_loopw [5, 8] (fun _ i wr => ∃ k : Nat, k ≤ l.length ∧ i = .int .i64 k ∧ IdxS p l k w wr) (fun _ i _ => l.length - (Go.RowKit.intOf i).toNat)
  case atStart => exact ⟨0, Nat.zero_le _, rfl, by simp, Below.refl _ _⟩
  case round =>
    obtain ⟨k, hk, rfl, hr⟩ := hrel
    have HR := Lib.hid hr
    clear hr
    by_cases hlt : k < l.length
    · obtain ⟨b, off, rfl, hlc, hcap, hb, k0, k1, k2, k3⟩ := (H.out.below HR.out.2).at hlt
      have hn := HP.out l[k] (List.getElem_mem hlt) wr HR.out.2
      unfold lv at hn
      have HAT := Lib.hid (any_take (p := p) hlt)
      have HNA := Lib.hid (idx_at (p := p) hlt HR.out.1)
      cases hm : p l[k] with
      | false =>
        rw [hm] at hn HAT
        have HN := Lib.hid hn
        clear hm HNA hn
        go_wp2_with fail
        (with_reducible refine HN.out.mono ?_)
        rintro e w' ⟨rfl, hz⟩
        have HZ := Lib.hid (below_trans HR.out.2 hz)
        clear hz
        go_wp2_with fail
        go_roundw
        case rel => exact ⟨k + 1, by omega, by go_num, by rw [HAT.out, HR.out.1]; rfl, HZ.out⟩
        case measure => simp [Go.RowKit.intOf]; omega
      | true =>
        rw [hm] at hn
        have HN := Lib.hid hn
        have HNA2 := Lib.hid (HNA.out hm)
        clear hm HNA hn HAT
        go_wp2_with fail
        (with_reducible refine HN.out.mono ?_)
        rintro e w' ⟨rfl, hz⟩
        have HZ := Lib.hid (below_trans HR.out.2 hz)
        clear hz
        go_wp2_with fail
        go_ret
        exact ⟨ret_int HNA2.out.symm, HZ.out⟩
    · obtain rfl : k = l.length := by omega
      have HA : Hid (idx p l = -1) := Lib.hid (idx_none (by have := HR.out.1; rwa [List.take_length] at this))
      go_wp2
      go_ret
      exact ⟨ret_int HA.out.symm, HR.out.2⟩

set_option maxRecDepth 100000 in
set_option maxHeartbeats 1000000 in
theorem IndexFuncB_any {v : Value} {l : List Ln} {w : World} (n : Nat) (he : Goods.Enters n) (z : Int) (p : Ln → Bool) (hp : ∀ x ∈ l, ∀ W, Below w.heap.size w W → Calls Try.prog n #[.int .i64 z, lv x] W (BoolB (p x) W)) (h : LRow w v l) (_hl : l.length ≤ 1000) : Calls Try.prog 50 #[v, .func (.func n) #[.int .i64 z] #[]] w (IntB (idx p l) w) := by
  obtain ⟨a, cap, rfl⟩ := h.slice
  have H := Lib.hid h
  have HP := Lib.hid hp
  unfold Goods.Enters at he
  clear h hp
  go_enter Try.func50, Try.ntmps50
  go_wp2
  go_loopw [5, 8] (fun _ i wr => ∃ k : Nat, k ≤ l.length ∧ i = .int .i64 k ∧ IdxS p l k w wr) (fun _ i _ => l.length - (Go.RowKit.intOf i).toNat)
  case atStart => exact ⟨0, Nat.zero_le _, rfl, by simp, Below.refl _ _⟩
  case round =>
    obtain ⟨k, hk, rfl, hr⟩ := hrel
    have HR := Lib.hid hr
    clear hr
    by_cases hlt : k < l.length
    · obtain ⟨b, off, rfl, hlc, hcap, hb, k0, k1, k2, k3⟩ := (H.out.below HR.out.2).at hlt
      have hn := HP.out l[k] (List.getElem_mem hlt) wr HR.out.2
      unfold lv at hn
      have HAT := Lib.hid (any_take (p := p) hlt)
      have HNA := Lib.hid (idx_at (p := p) hlt HR.out.1)
      cases hm : p l[k] with
      | false =>
        rw [hm] at hn HAT
        have HN := Lib.hid hn
        clear hm HNA hn
        go_wp2_with fail
        (with_reducible refine HN.out.mono ?_)
        rintro e w' ⟨rfl, hz⟩
        have HZ := Lib.hid (below_trans HR.out.2 hz)
        clear hz
        go_wp2_with fail
        go_roundw
        case rel => exact ⟨k + 1, by omega, by go_num, by rw [HAT.out, HR.out.1]; rfl, HZ.out⟩
        case measure => simp [Go.RowKit.intOf]; omega
      | true =>
        rw [hm] at hn
        have HN := Lib.hid hn
        have HNA2 := Lib.hid (HNA.out hm)
        clear hm HNA hn HAT
        go_wp2_with fail
        (with_reducible refine HN.out.mono ?_)
        rintro e w' ⟨rfl, hz⟩
        have HZ := Lib.hid (below_trans HR.out.2 hz)
        clear hz
        go_wp2_with fail
        go_ret
        exact ⟨ret_int HNA2.out.symm, HZ.out⟩
    · obtain rfl : k = l.length := by omega
      have HA : Hid (idx p l = -1) := Lib.hid (idx_none (by have := HR.out.1; rwa [List.take_length] at this))
      go_wp2
      go_ret
      exact ⟨ret_int HA.out.symm, HR.out.2⟩

set_option maxRecDepth 100000 in
theorem ContainsFuncL_any {v : Value} {l : List Ln} {w : World} (n : Nat) (he : Goods.Enters n) (g : Nat) (p : Ln → Bool) (hp : ∀ x ∈ l, ∀ W, Below w.heap.size w W → Calls Try.prog n #[lv x, .pointer (some ⟨g, 0, none⟩)] W (BoolB (p x) W)) (h : LRow w v l) (hl : l.length ≤ 1000) : Calls Try.prog 45 #[v, .func (.func n) #[] #[.pointer (some ⟨g, 0, none⟩)]] w (BoolB (l.any p) w) := by
  have HI := Lib.hid (IndexFuncL_any n he g p hp h hl)
  have hz : (decide (0 ≤ idx p l)) = l.any p := by
    cases hm : l.any p with
    | true => exact decide_eq_true (idx_any.2 hm)
    | false => exact decide_eq_false (fun h => by rw [idx_any.1 h] at hm; cases hm)
  have HZ := Lib.hid hz
  obtain ⟨a, cap, rfl⟩ := h.slice
  clear h hp he hz
  generalize idx p l = z at *
  go_enter Try.func45, Try.ntmps45
  go_wp2_with fail
  (with_reducible refine HI.out.mono ?_)
  rintro e w' ⟨rfl, hb⟩
  have HB := Lib.hid hb
  clear hb HI
  go_wp2_with fail
  go_ret
  exact ⟨ret_bool HZ.out, HB.out⟩

/-- Of the same order, or time. -/
def sameB (x y : Ln) : Bool := decide (y.w.o = x.w.o) || decide (y.w.s = x.w.s)
theorem twice_any (l : List Ln) (x : Ln) : l.any (fun y => sameB x y) = Waits.twiceB l x := rfl
set_option maxRecDepth 100000 in
set_option maxHeartbeats 1000000 in
theorem clashes1_any (x y : Ln) {g : Nat} {w : World} (h : Box g (lcs x) w) : Calls Try.prog 46 #[lv y, .pointer (some ⟨g, 0, none⟩)] w (BoolB (sameB x y) w) := by
  have HB := Lib.hid (al w (.cells #[.string y.k, .int .i64 y.w.c, .int .i64 y.w.s, .int .i64 y.w.o] 26))
  have hg := h.1
  obtain ⟨c0, c1, c2, c3⟩ := box4 h
  clear h
  unfold sameB
  unfold lv
  by_cases h1 : y.w.o = x.w.o
  · have h2 : (y.w.o == x.w.o) = true := by simpa using h1
    rw [decide_eq_true h1, Bool.true_or]
    clear h1
    go_enter Try.func46, Try.ntmps46
    go_wp2
    go_ret
    exact ⟨rfl, HB.out⟩
  · have h2 : (y.w.o == x.w.o) = false := by simpa using h1
    rw [decide_eq_false h1, Bool.false_or]
    clear h1
    by_cases h3 : y.w.s = x.w.s
    · have h4 : (y.w.s == x.w.s) = true := by simpa using h3
      rw [decide_eq_true h3]
      clear h3
      go_enter Try.func46, Try.ntmps46
      go_wp2
      go_ret
      exact ⟨rfl, HB.out⟩
    · have h4 : (y.w.s == x.w.s) = false := by simpa using h3
      rw [decide_eq_false h3]
      clear h3
      go_enter Try.func46, Try.ntmps46
      go_wp2
      go_ret
      exact ⟨rfl, HB.out⟩

set_option maxRecDepth 100000 in
set_option maxHeartbeats 1000000 in
theorem clashes_any {v : Value} {l : List Ln} {w : World} (h : LRow w v l) (hl : l.length ≤ 1000) (x : Ln) : Calls Try.prog 32 #[lv x, v] w (BoolB (Waits.twiceB l x) w) := by
  have hmf := makes
  have hb := al w (.cells (lcs x).toArray 26)
  have hbx := Box.made w (lcs x) 26
  have HB := Lib.hid hb
  have HC := Lib.hid (ContainsFuncL_any 46 (enters_of Try.func46 (by kernel_rfl) rfl) w.heap.size (fun y => sameB x y) (fun y _ W hW => clashes1_any x y (hbx.below hW)) (h.below hb) hl)
  rw [twice_any] at HC
  unfold lcs at HC HB
  obtain ⟨a, cap, rfl⟩ := h.slice
  unfold lv
  clear h hb hbx
  generalize Waits.twiceB l x = m at *
  go_enter Try.func32, Try.ntmps32
  go_wp2_with fail
  (with_reducible refine HC.out.mono ?_)
  rintro e w' ⟨rfl, hz⟩
  have HZ := Lib.hid (below_trans HB.out hz)
  clear hz
  go_wp2_with fail
  go_ret
  exact ⟨rfl, HZ.out⟩

/-- Of that order. -/
def isO (n : Int) (x : Ln) : Bool := decide (x.w.o = n)
set_option maxRecDepth 100000 in
theorem isOf_any (n : Int) (x : Ln) (w : World) : Calls Try.prog 51 #[.int .i64 n, lv x] w (BoolB (isO n x) w) := by
  have HB := Lib.hid (al w (.cells #[.string x.k, .int .i64 x.w.c, .int .i64 x.w.s, .int .i64 x.w.o] 26))
  unfold lv isO
  go_enter Try.func51, Try.ntmps51
  go_wp2
  go_ret
  exact ⟨ret_bool (by first | rfl | simp), HB.out⟩
end Go.Proofs.Ytcehhgcfkoldfaa.Waits
