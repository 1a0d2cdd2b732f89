/-
  Goods in memory: slices that read as lists of texts and of rules; contracts over them: Contains and ContainsFunc, whether a row rises, whether two are among the texts.
-/
import Derived.Test.YtjmmijobdcepmaaGCut
namespace Go.Proofs.Ytjmmijobdcepmaa.Goods
open Go.ChangeShapes Go.WideShapes Go.ChangeAt Go.RowKit

/-- A slice that reads as these texts. -/
def TRow (w : World) (v : Value) (l : List ByteArray) : Prop := ∃ (a : Option Addr) (cap : Nat), v = .slice a l.length cap ∧ l.length ≤ cap ∧ cap ≤ 9223372036854775807 ∧
  (0 < l.length → ∃ b off, a = some ⟨b, off, none⟩ ∧ b < w.heap.size ∧ ∀ j (h : j < l.length), w.cell? ⟨b, off + j, none⟩ = some (.string l[j]))
theorem TRow.below {w w' : World} {v : Value} {l : List ByteArray} (h : TRow w v l) (hb : Below w.heap.size w w') : TRow w' v l := by
  obtain ⟨a, cap, e, h1, h2, h3⟩ := h
  refine ⟨a, cap, e, h1, h2, fun h0 => ?_⟩
  obtain ⟨b, off, ea, hbl, hc⟩ := h3 h0
  exact ⟨b, off, ea, Nat.lt_of_lt_of_le hbl hb.size, fun j hj => (hb.cell (p := ⟨b, off + j, none⟩) hbl).trans (hc j hj)⟩
theorem TRow.slice {w : World} {v : Value} {l : List ByteArray} (h : TRow w v l) : ∃ a cap, v = .slice a l.length cap := by obtain ⟨a, cap, e, _⟩ := h; exact ⟨a, cap, e⟩
theorem TRow.at {w : World} {a : Option Addr} {cap : Nat} {l : List ByteArray} (h : TRow w (.slice a l.length cap) l) {q : Nat} (hq : q < l.length) :
    ∃ b off, a = some ⟨b, off, none⟩ ∧ l.length ≤ cap ∧ cap ≤ 9223372036854775807 ∧ b < w.heap.size ∧ w.cell? ⟨b, off + q, none⟩ = some (.string l[q]) := by
  obtain ⟨a', cap', e, h1, h2, h3⟩ := h
  cases e
  obtain ⟨b, off, ea, hbl, hc⟩ := h3 (by omega)
  exact ⟨b, off, ea, h1, h2, hbl, hc q hq⟩
theorem TRow.cap {w : World} {a : Option Addr} {n cap : Nat} {l : List ByteArray} (h : TRow w (.slice a n cap) l) : n = l.length ∧ l.length ≤ cap ∧ cap ≤ 9223372036854775807 := by
  obtain ⟨a', cap', e, h1, h2, _⟩ := h
  cases e
  exact ⟨rfl, h1, h2⟩
theorem TRow.take {w : World} {a : Option Addr} {cap : Nat} {l : List ByteArray} (h : TRow w (.slice a l.length cap) l) {n : Nat} (hn : n ≤ l.length) : TRow w (.slice a n cap) (l.take n) := by
  obtain ⟨a', cap', e, h1, h2, h3⟩ := h
  cases e
  have e1 : (l.take n).length = n := by rw [List.length_take]; omega
  refine ⟨a, cap, by rw [e1], by omega, h2, fun h0 => ?_⟩
  obtain ⟨b, off, ea, hbl, hc⟩ := h3 (by omega)
  exact ⟨b, off, ea, hbl, fun j hj => by
    rw [List.getElem_take]
    exact hc j (by omega)⟩
theorem TRow.nil (w : World) : TRow w (.slice none 0 0) [] := ⟨none, 0, rfl, Nat.le_refl _, by omega, fun h => absurd h (Nat.lt_irrefl _)⟩

/-- A slice that reads as these rules. -/
def GRow (w : World) (v : Value) (l : List Sb) : Prop := ∃ (a : Option Addr) (cap : Nat), v = .slice a l.length cap ∧ l.length ≤ cap ∧ cap ≤ 9223372036854775807 ∧
  (0 < l.length → ∃ b off, a = some ⟨b, off, none⟩ ∧ b < w.heap.size ∧ ∀ j (h : j < l.length), w.cell? ⟨b, off + j * 5, none⟩ = some (.string l[j].f) ∧ w.cell? ⟨b, off + j * 5 + 1, none⟩ = some (.string l[j].t) ∧ w.cell? ⟨b, off + j * 5 + 2, none⟩ = some (.int .i64 l[j].r) ∧ w.cell? ⟨b, off + j * 5 + 3, none⟩ = some (.int .i64 l[j].n) ∧ w.cell? ⟨b, off + j * 5 + 4, none⟩ = some (.int .i64 l[j].d))
theorem GRow.below {w w' : World} {v : Value} {l : List Sb} (h : GRow w v l) (hb : Below w.heap.size w w') : GRow w' v l := by
  obtain ⟨a, cap, e, h1, h2, h3⟩ := h
  refine ⟨a, cap, e, h1, h2, fun h0 => ?_⟩
  obtain ⟨b, off, ea, hbl, hc⟩ := h3 h0
  refine ⟨b, off, ea, Nat.lt_of_lt_of_le hbl hb.size, fun j hj => ?_⟩
  obtain ⟨k0, k1, k2, k3, k4⟩ := hc j hj
  exact ⟨(hb.cell (p := ⟨b, off + j * 5, none⟩) hbl).trans k0, (hb.cell (p := ⟨b, off + j * 5 + 1, none⟩) hbl).trans k1, (hb.cell (p := ⟨b, off + j * 5 + 2, none⟩) hbl).trans k2, (hb.cell (p := ⟨b, off + j * 5 + 3, none⟩) hbl).trans k3, (hb.cell (p := ⟨b, off + j * 5 + 4, none⟩) hbl).trans k4⟩
theorem GRow.slice {w : World} {v : Value} {l : List Sb} (h : GRow w v l) : ∃ a cap, v = .slice a l.length cap := by obtain ⟨a, cap, e, _⟩ := h; exact ⟨a, cap, e⟩
theorem GRow.at {w : World} {a : Option Addr} {cap : Nat} {l : List Sb} (h : GRow w (.slice a l.length cap) l) {q : Nat} (hq : q < l.length) :
    ∃ b off, a = some ⟨b, off, none⟩ ∧ l.length ≤ cap ∧ cap ≤ 9223372036854775807 ∧ b < w.heap.size ∧ w.cell? ⟨b, off + q * 5, none⟩ = some (.string l[q].f) ∧ w.cell? ⟨b, off + q * 5 + 1, none⟩ = some (.string l[q].t) ∧ w.cell? ⟨b, off + q * 5 + 2, none⟩ = some (.int .i64 l[q].r) ∧ w.cell? ⟨b, off + q * 5 + 3, none⟩ = some (.int .i64 l[q].n) ∧ w.cell? ⟨b, off + q * 5 + 4, none⟩ = some (.int .i64 l[q].d) := by
  obtain ⟨a', cap', e, h1, h2, h3⟩ := h
  cases e
  obtain ⟨b, off, ea, hbl, hc⟩ := h3 (by omega)
  exact ⟨b, off, ea, h1, h2, hbl, hc q hq⟩
theorem GRow.cap {w : World} {a : Option Addr} {n cap : Nat} {l : List Sb} (h : GRow w (.slice a n cap) l) : n = l.length ∧ l.length ≤ cap ∧ cap ≤ 9223372036854775807 := by
  obtain ⟨a', cap', e, h1, h2, _⟩ := h
  cases e
  exact ⟨rfl, h1, h2⟩
theorem GRow.take {w : World} {a : Option Addr} {cap : Nat} {l : List Sb} (h : GRow w (.slice a l.length cap) l) {n : Nat} (hn : n ≤ l.length) : GRow w (.slice a n cap) (l.take n) := by
  obtain ⟨a', cap', e, h1, h2, h3⟩ := h
  cases e
  have e1 : (l.take n).length = n := by rw [List.length_take]; omega
  refine ⟨a, cap, by rw [e1], by omega, h2, fun h0 => ?_⟩
  obtain ⟨b, off, ea, hbl, hc⟩ := h3 (by omega)
  exact ⟨b, off, ea, hbl, fun j hj => by
    rw [List.getElem_take]
    exact hc j (by omega)⟩
theorem GRow.nil (w : World) : GRow w (.slice none 0 0) [] := ⟨none, 0, rfl, Nat.le_refl _, by omega, fun h => absurd h (Nat.lt_irrefl _)⟩

theorem bne_yes {x y : ByteArray} (h : x = y) : (x.toList != y.toList) = false := by rw [h]; simp

set_option maxRecDepth 100000 in
set_option maxHeartbeats 1000000 in
theorem Index_any {v : Value} {l : List ByteArray} {w : World} (h : TRow w v l) (_hl : l.length ≤ 1000) (s : ByteArray) : Calls Try.prog 98 #[v, .string s] w fun e w' => (∃ z : Int, e = .returned (.int .i64 z) ∧ (0 ≤ z ↔ hasB l s = true)) ∧ Below w.heap.size w w' := by
  obtain ⟨a, cap, rfl⟩ := h.slice
  have H := Lib.hid h
  clear h
  go_enter Try.func98, Try.ntmps98
  go_wp2
  go_loop [5, 8] (fun _ i => ∃ k : Nat, k ≤ l.length ∧ i = .int .i64 k ∧ (l.take k).any (fun x => decide (x = s)) = false) (fun _ i => l.length - (Go.RowKit.intOf i).toNat)
  case atStart => exact ⟨0, Nat.zero_le _, rfl, by simp⟩
  case round =>
    obtain ⟨k, hk, rfl, hr⟩ := hrel
    have HR := Lib.hid hr
    clear hr
    by_cases hlt : k < l.length
    · obtain ⟨b, off, rfl, hlc, hcap, hb, k0⟩ := H.out.at hlt
      have HAT := Lib.hid (any_take (p := fun x => decide (x = s)) hlt)
      have HNA := Lib.hid (any_at (p := fun x => decide (x = s)) hlt)
      generalize l[k] = x at k0 HAT HNA
      by_cases hm : s = x
      · have h1 := bytes_yes hm
        have HNA2 : Hid (hasB l s = true) := Lib.hid (HNA.out (by simp [hm]))
        clear hm HNA HAT
        go_wp2
        go_ret
        exact ⟨⟨k, rfl, ⟨fun _ => HNA2.out, fun _ => by omega⟩⟩, Below.refl _ _⟩
      · have h1 := bytes_no hm
        have HAT2 : Hid ((l.take (k + 1)).any (fun x => decide (x = s)) = false) := Lib.hid (by rw [HAT.out, HR.out]; simp; exact fun h => hm h.symm)
        clear hm HNA HAT
        go_wp2
        go_round
        case rel => exact ⟨k + 1, by omega, by go_num, HAT2.out⟩
        case measure => simp [Go.RowKit.intOf]; omega
    · obtain rfl : k = l.length := by omega
      have HA : Hid (hasB l s = false) := Lib.hid (by have := HR.out; rwa [List.take_length] at this)
      go_wp2
      go_ret
      exact ⟨⟨-1, rfl, ⟨fun h => by omega, fun h => by rw [HA.out] at h; cases h⟩⟩, Below.refl _ _⟩

set_option maxRecDepth 100000 in
theorem Contains_any {v : Value} {l : List ByteArray} {w : World} (h : TRow w v l) (hl : l.length ≤ 1000) (s : ByteArray) : Calls Try.prog 90 #[v, .string s] w (BoolB (hasB l s) w) := by
  have HI := Lib.hid (Index_any h hl s)
  obtain ⟨a, cap, rfl⟩ := h.slice
  clear h
  go_enter Try.func90, Try.ntmps90
  go_wp2_with fail
  (with_reducible refine HI.out.mono ?_)
  rintro e w' ⟨⟨z, rfl, hz⟩, hb⟩
  have HZ := Lib.hid hz
  have HB := Lib.hid hb
  clear hz hb HI
  go_wp2_with fail
  go_ret
  refine ⟨ret_bool ?_, HB.out⟩
  cases hm : hasB l s with
  | true => exact decide_eq_true (HZ.out.2 hm)
  | false => exact decide_eq_false (fun h => by rw [HZ.out.1 h] at hm; cases hm)

set_option maxRecDepth 100000 in
set_option maxHeartbeats 1000000 in
theorem among_any (x : Sb) {v : Value} {l : List ByteArray} {w : World} (h : TRow w v l) (hl : l.length ≤ 1000) : Calls Try.prog 80 #[sv x, v] w (BoolB (amongB x l) w) := by
  have HF := Lib.hid (fun W (hb : Below w.heap.size w W) => Contains_any (h.below hb) hl x.f)
  have HT := Lib.hid (fun W (hb : Below w.heap.size w W) => Contains_any (h.below hb) hl x.t)
  have HB := Lib.hid (al w (.cells #[.string x.f, .string x.t, .int .i64 x.r, .int .i64 x.n, .int .i64 x.d] 100))
  have HX := Lib.hid (Box.made w [.string x.f, .string x.t, .int .i64 x.r, .int .i64 x.n, .int .i64 x.d] 100)
  obtain ⟨a, cap, rfl⟩ := h.slice
  clear h
  unfold amongB sv
  cases hf : hasB l x.f with
  | false =>
    rw [hf] at HF
    clear hf HT
    go_enter Try.func80, Try.ntmps80
    go_wp2_with (go_at_call 90; (with_reducible refine (HF.out _ HB.out).mono ?_); rintro e w1 ⟨rfl, hz⟩; have HZ := Lib.hid (below_trans HB.out hz); clear hz)
    go_ret
    exact ⟨rfl, HZ.out⟩
  | true =>
    rw [hf] at HF
    rw [Bool.true_and]
    generalize hasB l x.t = m at HT ⊢
    clear hf
    go_enter Try.func80, Try.ntmps80
    go_wp2_with fail
    (with_reducible refine (HF.out _ HB.out).mono ?_)
    rintro e w1 ⟨rfl, hz⟩
    have HY := HX.out.below hz
    have s0 := HY.1
    have k1 := HY.c5.2.1
    have HZ := Lib.hid (below_trans HB.out hz)
    clear hz HY
    go_wp2_with fail
    (with_reducible refine (HT.out _ HZ.out).mono ?_)
    rintro e w2 ⟨rfl, hz⟩
    have HZ2 := Lib.hid (below_trans HZ.out hz)
    clear hz
    go_wp2_with fail
    go_ret
    exact ⟨rfl, HZ2.out⟩
end Go.Proofs.Ytjmmijobdcepmaa.Goods
