/-
  Contracts of package stock: where the row of a name is (strings.Compare, slices.BinarySearchFunc over rows, place).
-/
import Derived.Test.YtihfdeihpdkjcaaKRow
import Derived.Lib.Bytealg
namespace Go.Proofs.Ytihfdeihpdkjcaa.Goods.Stk
open Go.ChangeShapes Go.WideShapes Go.ChangeAt Go.RowKit Go.Shelf

theorem cb_lt : ∀ a b : List UInt8, Op.bytesLess a b = true → Lib.compareBytes a b = -1
  | _, [], h => by simp [Op.bytesLess] at h
  | [], _ :: _, _ => rfl
  | x :: a, y :: b, h => by
    simp [Op.bytesLess] at h
    unfold Lib.compareBytes
    rcases h with h | ⟨rfl, h⟩
    · rw [if_pos h]
    · rw [if_neg (UInt8.lt_irrefl x), if_neg (UInt8.lt_irrefl x), cb_lt a b h]
theorem cb_gt : ∀ a b : List UInt8, Op.bytesLess b a = true → Lib.compareBytes a b = 1
  | [], _, h => by simp [Op.bytesLess] at h
  | _ :: _, [], _ => rfl
  | x :: a, y :: b, h => by
    simp [Op.bytesLess] at h
    unfold Lib.compareBytes
    rcases h with h | ⟨rfl, h⟩
    · rw [if_neg (UInt8.not_lt.2 (UInt8.le_of_lt h)), if_pos h]
    · rw [if_neg (UInt8.lt_irrefl y), if_neg (UInt8.lt_irrefl y), cb_gt a b h]
theorem cb_eq : ∀ a : List UInt8, Lib.compareBytes a a = 0
  | [] => rfl
  | x :: a => by unfold Lib.compareBytes; rw [if_neg (UInt8.lt_irrefl x), if_neg (UInt8.lt_irrefl x), cb_eq a]
theorem cb_is (x y : ByteArray) : Lib.compareBytes x.data.toList y.data.toList = cmpT x y := by
  unfold cmpT
  by_cases h1 : ltT x y = true
  · rw [if_pos h1]
    unfold ltT at h1
    rw [Lib.toList_data, Lib.toList_data] at h1
    exact cb_lt _ _ h1
  · rw [if_neg h1]
    by_cases h2 : ltT y x = true
    · rw [if_pos h2]
      unfold ltT at h2
      rw [Lib.toList_data, Lib.toList_data] at h2
      exact cb_gt _ _ h2
    · rw [if_neg h2]
      have e : x = y := ltT_total (by simpa using h1) (by simpa using h2)
      rw [e]
      exact cb_eq _
theorem cmpT_lt (x y : ByteArray) : cmpT x y < 0 ↔ ltT x y = true := by
  unfold cmpT
  by_cases h1 : ltT x y = true
  · simp [h1]
  · rw [if_neg h1]
    split <;> simp [h1]
theorem cmpT_eq (x y : ByteArray) : cmpT x y = 0 ↔ x = y := by
  unfold cmpT
  by_cases h1 : ltT x y = true
  · rw [if_pos h1]
    exact ⟨fun h => by omega, fun h => absurd h (ltT_ne h1)⟩
  · rw [if_neg h1]
    by_cases h2 : ltT y x = true
    · rw [if_pos h2]
      exact ⟨fun h => by omega, fun h => absurd h.symm (ltT_ne h2)⟩
    · rw [if_neg h2]
      exact ⟨fun _ => ltT_total (by simpa using h1) (by simpa using h2), fun _ => rfl⟩

set_option maxHeartbeats 1000000 in
set_option maxRecDepth 100000 in
theorem CompareString_any (a b : ByteArray) (w : World) : Calls Try.prog 48 #[.string a, .string b] w fun e w' => e = .returned (.int .i64 (cmpT a b)) ∧ w = w' := by
  rw [← cb_is]
  go_enter Try.func48, Try.ntmps48
  go_wp2
  rw [run_callFunc_extern Try.func52 (by kernel_rfl) (by kernel_rfl) (by kernel_rfl) (e := Extern.BytealgCompare.compare) (by kernel_rfl), Lib.run_compareString]
  simp only [Result.andThen]
  rw [Oper.upon_value]
  go_wp2
  go_ret
  exact ⟨rfl, rfl⟩
theorem Strcmp_any (a b : ByteArray) (w : World) : Calls Try.prog 42 #[.string a, .string b] w fun e w' => e = .returned (.int .i64 (cmpT a b)) ∧ w = w' := by
  have HC := Lib.hid (fun W => CompareString_any a b W)
  go_enter Try.func42, Try.ntmps42
  go_wp2_with (go_at_call 48; (with_reducible refine (HC.out _).mono ?_); rintro e w' ⟨rfl, rfl⟩)
  go_ret
  exact ⟨rfl, rfl⟩
set_option maxRecDepth 100000 in
theorem place1_any (x : Rw) (k : ByteArray) (w : World) : Calls Try.prog 41 #[rv x, .string k] w (IntB (cmpT x.s k) w) := by
  have HC := Lib.hid (fun W => Strcmp_any x.s k W)
  have HB := Lib.hid (al w (.cells #[.string x.s, .int .i64 x.n, .int .i64 x.f, .int .i64 x.h, .int .i64 x.p, .int .i64 x.t] 25))
  unfold rv
  generalize cmpT x.s k = m at *
  go_enter Try.func41, Try.ntmps41
  go_wp2_with (go_at_call 42; (with_reducible refine (HC.out _).mono ?_); rintro e w' ⟨rfl, rfl⟩)
  go_ret
  exact ⟨rfl, HB.out⟩

/-- Is there a row of that name? -/
def hasR (k : ByteArray) (l : List Rw) : Bool := (getL k l).isSome
/-- Halves: all ahead of lo are below, all from hi on are not. -/
def Half (k : ByteArray) (l : List Rw) (lo hi : Nat) : Prop := lo ≤ hi ∧ hi ≤ l.length ∧ (∀ t (h : t < l.length), t < lo → ltT l[t].s k = true) ∧ (∀ t (h : t < l.length), hi ≤ t → ltT l[t].s k = false)
theorem half_up {k : ByteArray} {l : List Rw} {lo hi m : Nat} (hp : l.Pairwise (fun a b => ltR a b = true)) (h : Half k l lo hi) (h1 : lo ≤ m) (h2 : m < hi) (hm : m < l.length) (hl : ltT l[m].s k = true) : Half k l (m + 1) hi := by
  refine ⟨by omega, h.2.1, fun t ht htm => ?_, h.2.2.2⟩
  by_cases e : t = m
  · subst e; exact hl
  · exact ltT_trans (List.pairwise_iff_getElem.1 hp t m ht hm (by omega)) hl
theorem half_down {k : ByteArray} {l : List Rw} {lo hi m : Nat} (hp : l.Pairwise (fun a b => ltR a b = true)) (h : Half k l lo hi) (h1 : lo ≤ m) (h2 : m < hi) (hm : m < l.length) (hl : ltT l[m].s k = false) : Half k l lo m := by
  refine ⟨h1, by omega, h.2.2.1, fun t ht htm => ?_⟩
  by_cases e : t = m
  · subst e; exact hl
  · cases hc : ltT l[t].s k with
    | false => rfl
    | true => rw [← hl, ltT_trans (List.pairwise_iff_getElem.1 hp m t hm ht (by omega)) hc]
theorem half_end {k : ByteArray} {l : List Rw} {i : Nat} (hp : l.Pairwise (fun a b => ltR a b = true)) (h : Half k l i i) : posL k l = i ∧ (∀ h : i < l.length, hasR k l = decide (l[i].s = k)) ∧ (l.length ≤ i → hasR k l = false) := by
  have e : posL k l = i := posL_is h.2.1 h.2.2.1 (fun hi => h.2.2.2 i hi (Nat.le_refl _))
  refine ⟨e, fun hi => ?_, fun hi => ?_⟩
  · unfold hasR
    cases hg : getL k l with
    | none => 
      have := pos_ne hg (by omega)
      simp only [e] at this
      simp [this]
    | some x =>
      obtain ⟨h1, h2, _⟩ := pos_some hp hg
      simp only [e] at h2
      simp [h2, (getL_name hg).1]
  · unfold hasR
    cases hg : getL k l with
    | none => rfl
    | some x =>
      obtain ⟨h1, h2, _⟩ := pos_some hp hg
      omega

/-- A place is returned, and whether the row is there. -/
def PlaceB (k : ByteArray) (l : List Rw) (w : World) (e : Ending) (w' : World) : Prop := e = .returned (.tuple #[.int .i64 (posL k l), .bool (hasR k l)]) ∧ Below w.heap.size w w'

set_option maxHeartbeats 2000000 in
set_option maxRecDepth 100000 in
theorem Search_any {v : Value} {l : List Rw} {w : World} (h : SRow w v l) (hl : l.length ≤ 1000) (hp : l.Pairwise (fun a b => ltR a b = true)) (k : ByteArray) : Calls Try.prog 40 #[v, .string k, .func (.func 41) #[] #[]] w (PlaceB k l w) := by
  obtain ⟨a, cap, rfl⟩ := h.slice
  have H := Lib.hid h
  have HP := Lib.hid hp
  clear h hp
  go_enter Try.func40, Try.ntmps40
  go_wp2
  go_loopg [9, 10] l.length (fun kx s9 s10 wr => ∃ lo hi : Nat, s9 = .int .i64 lo ∧ s10 = .int .i64 hi ∧ hi - lo ≤ kx ∧ Half k l lo hi ∧ Below w.heap.size w wr)
  case atStart => exact ⟨0, l.length, rfl, rfl, by omega, ⟨by omega, Nat.le_refl _, fun t _ ht => by omega, fun t h1 h2 => by omega⟩, Below.refl _ _⟩
  case round =>
    obtain ⟨lo, hi, rfl, rfl, hg, hh, hb⟩ := hrel
    have HB := Lib.hid hb
    have HH := Lib.hid hh
    have hlh := hh.1
    have hin := hh.2.1
    clear hb hh
    by_cases hlt : lo < hi
    · have hm : (lo + hi) / 2 < l.length := by omega
      obtain ⟨b, off, rfl, hlc, hcap, hbl, k0, k1, k2, k3, k4, k5⟩ := (H.out.below HB.out).at hm
      have HUP := Lib.hid (half_up HP.out HH.out (m := (lo + hi) / 2) (by omega) (by omega) hm)
      have HDN := Lib.hid (half_down HP.out HH.out (m := (lo + hi) / 2) (by omega) (by omega) hm)
      have hc := place1_any l[(lo + hi) / 2] k wr
      unfold rv at hc
      have hlt' := cmpT_lt l[(lo + hi) / 2].s k
      generalize l[(lo + hi) / 2] = y at *
      cases hy : ltT y.s k with
      | true =>
        have hyx : cmpT y.s k < 0 := hlt'.2 hy
        have HU := Lib.hid (HUP.out hy)
        generalize cmpT y.s k = z at *
        have HC := Lib.hid hc
        clear hc hlt' HUP HDN hy
        go_wp2_with (go_at_call 41; (with_reducible refine HC.out.mono ?_); rintro e w' ⟨rfl, hz⟩; have HZ := Lib.hid (below_trans HB.out hz); clear hz)
        go_roundg (hi - ((lo + hi) / 2 + 1))
        case measure => omega
        case rel => exact ⟨(lo + hi) / 2 + 1, hi, by rw [show ((lo : Int) + (hi : Int)) / 2 + 1 = (((lo + hi) / 2 + 1 : Nat) : Int) by omega], rfl, Nat.le_refl _, HU.out, HZ.out⟩
      | false =>
        have hyx : ¬ cmpT y.s k < 0 := fun h => by rw [hlt'.1 h] at hy; cases hy
        have HU := Lib.hid (HDN.out hy)
        generalize cmpT y.s k = z at *
        have HC := Lib.hid hc
        clear hc hlt' HUP HDN hy
        go_wp2_with (go_at_call 41; (with_reducible refine HC.out.mono ?_); rintro e w' ⟨rfl, hz⟩; have HZ := Lib.hid (below_trans HB.out hz); clear hz)
        go_roundg ((lo + hi) / 2 - lo)
        case measure => omega
        case rel => exact ⟨lo, (lo + hi) / 2, rfl, by rw [show ((lo : Int) + (hi : Int)) / 2 = (((lo + hi) / 2 : Nat) : Int) by omega], Nat.le_refl _, HU.out, HZ.out⟩
    · obtain rfl : hi = lo := by omega
      obtain ⟨e1, e2, e3⟩ := half_end HP.out HH.out
      have HE1 := Lib.hid e1
      clear e1
      by_cases hn : hi < l.length
      · obtain ⟨b, off, rfl, hlc, hcap, hbl, k0, k1, k2, k3, k4, k5⟩ := (H.out.below HB.out).at hn
        have hc := place1_any l[hi] k wr
        unfold rv at hc
        have e4 := e2 hn
        have heq := cmpT_eq l[hi].s k
        generalize l[hi] = y at *
        clear e2 e3
        by_cases hyx : cmpT y.s k = 0
        · have HE4 := Lib.hid (e4.trans (decide_eq_true (heq.1 hyx)))
          have hyx2 : (cmpT y.s k == 0) = true := by simpa using hyx
          generalize cmpT y.s k = z at *
          have HC := Lib.hid hc
          clear hc heq hyx e4
          go_wp2_with (go_at_call 41; (with_reducible refine HC.out.mono ?_); rintro e w' ⟨rfl, hz⟩; have HZ := Lib.hid (below_trans HB.out hz); clear hz)
          go_ret2
          exact ⟨by rw [HE1.out, HE4.out]; rfl, HZ.out⟩
        · have HE4 := Lib.hid (e4.trans (decide_eq_false (fun h => hyx (heq.2 h))))
          have hyx2 : (cmpT y.s k == 0) = false := by simpa using hyx
          generalize cmpT y.s k = z at *
          have HC := Lib.hid hc
          clear hc heq hyx e4
          go_wp2_with (go_at_call 41; (with_reducible refine HC.out.mono ?_); rintro e w' ⟨rfl, hz⟩; have HZ := Lib.hid (below_trans HB.out hz); clear hz)
          go_ret2
          exact ⟨by rw [HE1.out, HE4.out]; rfl, HZ.out⟩
      · have HE4 := Lib.hid (e3 (by omega))
        clear e2 e3
        go_wp2
        go_ret2
        exact ⟨by rw [HE1.out, HE4.out]; rfl, HB.out⟩

set_option maxRecDepth 100000 in
theorem place_any {v : Value} {l : List Rw} {w : World} (h : SRow w v l) (hl : l.length ≤ 1000) (hp : l.Pairwise (fun a b => ltR a b = true)) (k : ByteArray) : Calls Try.prog 21 #[v, .string k] w (PlaceB k l w) := by
  have HS := Lib.hid (Search_any h hl hp k)
  obtain ⟨a, cap, rfl⟩ := h.slice
  unfold PlaceB at *
  generalize posL k l = i at *
  generalize hasR k l = m at *
  clear h hp
  go_enter Try.func21, Try.ntmps21
  go_wp2_with (go_at_call 40; (with_reducible refine HS.out.mono ?_); rintro e w' ⟨rfl, hz⟩; have HZ := Lib.hid hz; clear hz)
  go_ret2
  exact ⟨rfl, HZ.out⟩
end Go.Proofs.Ytihfdeihpdkjcaa.Goods.Stk
