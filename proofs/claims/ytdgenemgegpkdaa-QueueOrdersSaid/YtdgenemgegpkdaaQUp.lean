/-
  The library's heap over a row of waits behind its address: up.
-/
import Derived.Test.YtdgenemgegpkdaaQOwn
namespace Go.Proofs.Ytdgenemgegpkdaa.Queue
open Go.ChangeShapes Go.WideShapes Go.ChangeAt Go.RowKit Go.Shelf Go.Sort

/-- The row of waits behind its address hb: the row's slice v, that reads as l, in a block of its own. -/
def HS (B hb : Nat) (v : Value) (l : List Wt) (w : World) : Prop := w.heap[hb]? = some (.cells #[v] 40 (0, 0)) ∧ OwnQ B v l w ∧ B ≤ hb
theorem HS.lt {B hb : Nat} {v : Value} {l : List Wt} {w : World} (h : HS B hb v l w) : hb < w.heap.size := (Array.getElem?_eq_some_iff.1 h.1).1
theorem HS.below {B hb : Nat} {v : Value} {l : List Wt} {w w' : World} (h : HS B hb v l w) (hb' : Below w.heap.size w w') : HS B hb v l w' := ⟨(hb'.block hb h.lt).trans h.1, h.2.1.below hb', h.2.2⟩
theorem HS.cell {B hb : Nat} {v : Value} {l : List Wt} {w : World} (h : HS B hb v l w) : w.cell? ⟨hb, 0, none⟩ = some v ∧ w.frozen? ⟨hb, 0, none⟩ = false := by
  refine ⟨?_, by simp [World.frozen?, h.1]⟩
  rw [cell_of_row w hb 0 #[v] 40 (0, 0) h.1]
  rfl
theorem HS.apart {B hb g n cap : Nat} {l : List Wt} {w : World} (h : HS B hb (.slice (some ⟨g, 0, none⟩) n cap) l w) : hb ≠ g := by
  intro e
  subst e
  obtain ⟨c, fz, hc⟩ := Go.Lib.ownsRow_kind h.2.1 hb rfl
  rw [h.1] at hc
  cases hc
theorem OwnQ.form {B : Nat} {v : Value} {l : List Wt} {w : World} (h : OwnQ B v l w) (hl : 0 < l.length) : ∃ g cap, v = .slice (some ⟨g, 0, none⟩) l.length cap := by
  obtain ⟨g, cap, e, _⟩ := h.at hl
  exact ⟨g, cap, e⟩

theorem LessH {B hb : Nat} {v : Value} {l : List Wt} {w : World} (h : HS B hb v l w) {i j : Nat} (hi : i < l.length) (hj : j < l.length) :
    Calls Try.prog 72 #[v, .int .i64 i, .int .i64 j] w fun e w' => e = .returned (.bool (ltB l.toArray[i]! l.toArray[j]!)) ∧ HS B hb v l w' ∧ Below w.heap.size w w' :=
  (LessM_any h.2.1.row hi hj).mono fun _ _ ⟨he, hb'⟩ => ⟨he, h.below hb', hb'⟩
theorem SwapH {B hb : Nat} {v : Value} {l : List Wt} {w : World} (h : HS B hb v l w) {i j : Nat} (hi : i < l.length) (hj : j < l.length) :
    Calls Try.prog 73 #[v, .int .i64 i, .int .i64 j] w fun e w' => e = .returned (.tuple #[]) ∧ HS B hb v (lsw l i j) w' ∧ Below B w w' := by
  obtain ⟨g, cap, rfl⟩ := h.2.1.form (by omega)
  refine (Swap_any h.2.1 rfl hi hj).mono ?_
  rintro e w' ⟨rfl, h1, h2, h3⟩
  exact ⟨rfl, ⟨(h3 hb h.apart h.lt).trans h.1, h1, h.2.2⟩, h2⟩
theorem LenH {B hb : Nat} {v : Value} {l : List Wt} {w : World} (h : HS B hb v l w) : Calls Try.prog 71 #[v] w fun e w' => e = .returned (.int .i64 l.length) ∧ w = w' := by
  obtain ⟨a, cap, rfl⟩ := h.2.1.row.slice
  exact Len_any a l.length cap w
theorem ent_Len : ∀ args w, (callFunc 71 args).run Try.prog w = .ok (.enter 71 args) w := enters_of Try.func71 (by kernel_rfl) rfl
theorem ent_Less : ∀ args w, (callFunc 72 args).run Try.prog w = .ok (.enter 72 args) w := enters_of Try.func72 (by kernel_rfl) rfl
theorem ent_Swap : ∀ args w, (callFunc 73 args).run Try.prog w = .ok (.enter 73 args) w := enters_of Try.func73 (by kernel_rfl) rfl
theorem ent_Push : ∀ args w, (callFunc 75 args).run Try.prog w = .ok (.enter 75 args) w := enters_of Try.func75 (by kernel_rfl) rfl
theorem ent_Pop : ∀ args w, (callFunc 74 args).run Try.prog w = .ok (.enter 74 args) w := enters_of Try.func74 (by kernel_rfl) rfl

/-- As far as it went: what is left to do comes to what was to be done. -/
def UpR (B hb : Nat) (v : Value) (j0 : Nat) (l : List Wt) (w : World) (j : Nat) (W : World) : Prop := ∃ l', HS B hb v l' W ∧ l'.length = l.length ∧ j < l.length ∧ Below B w W ∧ up j l'.toArray = up j0 l.toArray
/-- Behind the call. -/
def ToE (B hb : Nat) (v : Value) (d : Array Wt) (w : World) (e : Ending) (w' : World) : Prop := e = .returned (.tuple #[]) ∧ HS B hb v d.toList w' ∧ Below B w w'

set_option maxHeartbeats 2000000 in
set_option maxRecDepth 100000 in
theorem up_any {B hb : Nat} {v : Value} {l : List Wt} {w : World} (h : HS B hb v l w) {j0 : Nat} (hj0 : j0 < l.length) (hl : l.length ≤ 1000) :
    Calls Try.prog 37 #[.iface 42 (.pointer (some ⟨hb, 0, none⟩)), .int .i64 j0] w (ToE B hb v (up j0 l.toArray) w) := by
  have eL := ent_Less
  have eS := ent_Swap
  have HST : Hid (UpR B hb v j0 l w j0 w) := ⟨l, h, rfl, hj0, Below.refl _ _, rfl⟩
  clear h
  go_enter Try.func37, Try.ntmps37
  go_wp2
  go_loopw [1] (fun x wr => ∃ j : Nat, x = .int .i64 j ∧ UpR B hb v j0 l w j wr) (fun x _ => (Go.RowKit.intOf x).toNat)
  case atStart => exact ⟨j0, rfl, HST.out⟩
  case round =>
    clear HST
    obtain ⟨j, rfl, l', h', hl', hj, hbel, hup⟩ := hrel
    have H := Lib.hid h'
    have HB := Lib.hid hbel
    have HU := Lib.hid hup
    have HLL := Lib.hid hl'
    have hj1000 : j < 1000 := by omega
    clear h' hbel hup hl' hj0
    by_cases h0 : j = 0
    · subst h0
      go_wp2
      go_end0
      exact ⟨rfl, by rw [← HU.out, up_zero]; exact H.out, HB.out⟩
    · obtain ⟨p, hp⟩ : ∃ p : Nat, (j - 1) / 2 = p := ⟨_, rfl⟩
      have hp0 : ((j : Int) - 1) / 2 = (p : Int) := by omega
      have hp1 : p < j := by omega
      have hj1 : 1 ≤ (j : Int) := by omega
      have hne : ((p : Int) == (j : Int)) = false := by simp; omega
      have HPP := Lib.hid hp
      have HLE := Lib.hid (LessH H.out (i := j) (j := p) (by have := HLL.out; omega) (by have := HLL.out; omega))
      have mL := find_Less hb v wr H.out.cell.1
      clear hp
      cases hm : ltB l'.toArray[j]! l'.toArray[p]! with
      | true =>
        rw [hm] at HLE
        have HM := Lib.hid hm
        clear hm
        go_wp2_with (first
          | (go_at_fn 72; (with_reducible refine HLE.out.mono ?_); rintro e w1 ⟨rfl, h1, b1⟩; have H1 := Lib.hid h1; have HB1 := Lib.hid (HB.out.trans (b1.mono (by have := h1.lt; have := h1.2.2; have := H.out.lt; omega))); have mS := find_Swap hb v w1 h1.cell.1; have HSW := Lib.hid (SwapH h1 (i := p) (j := j) (by have := HLL.out; omega) (by have := HLL.out; omega)); clear h1 b1)
          | (go_at_fn 73; (with_reducible refine HSW.out.mono ?_); rintro e w2 ⟨rfl, h2, b2⟩; have H2 := Lib.hid h2; have HB2 := Lib.hid (HB1.out.trans b2); clear h2 b2))
        go_roundw
        case rel =>
          refine ⟨p, rfl, _, H2.out, by rw [lsw_len]; exact HLL.out, by omega, HB2.out, ?_⟩
          have e := up_go (j := j) (d := l'.toArray) (by omega) (by rw [HPP.out]; exact HM.out)
          rw [HPP.out] at e
          rw [lsw_swp, ← HU.out, e]
        case measure => simp [Go.RowKit.intOf]; omega
      | false =>
        rw [hm] at HLE
        have HM := Lib.hid hm
        clear hm
        go_wp2_with (go_at_fn 72; (with_reducible refine HLE.out.mono ?_); rintro e w1 ⟨rfl, h1, b1⟩; have H1 := Lib.hid h1; have HB1 := Lib.hid (HB.out.trans (b1.mono (by have := h1.lt; have := h1.2.2; have := H.out.lt; omega))); clear h1 b1)
        go_end0
        exact ⟨rfl, by rw [← HU.out, up_stop (by rw [HPP.out]; exact HM.out)]; exact H1.out, HB1.out⟩
end Go.Proofs.Ytdgenemgegpkdaa.Queue
