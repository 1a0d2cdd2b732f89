/-
  Steps of a drawn region by hand; a function value over timers sought in a row (slices.IndexFunc, ContainsFunc).
-/
import Derived.Test.YtncaohdnbibkfaaTBase
import Derived.Deep.CutRange
namespace Go.Proofs.Ytncaohdnbibkfaa.Timer
open Go.ChangeShapes Go.WideShapes Go.ChangeAt Go.RowKit Go.Shelf Go.Lib
open Go.Proofs.Ytncaohdnbibkfaa.Queue

section
variable {P : Program} {md : Region.Mode} {ops : Array Oper} {Q : Exit → Act → World → Prop} {S : World → Prop}
/-- What is asked behind a panic does not hang on the frame. -/
def Calm (Q : Exit → Act → World → Prop) : Prop := ∀ c a o v w, Q (.panic c) (Act.put a o v) w → Q (.panic c) a w
theorem calm_then {K : Act → World → Prop} (h : Calm Q) : Calm (Exit.then K Q) := h
theorem calm_body {fn : Func} {post : Ending → World → Prop} : Calm (bodyPost P fn post) := fun _ a o _ _ h => by cases o <;> exact h
theorem calm_np : Calm (NoPanic Q) := fun _ _ _ _ _ h => h
/-- An operation whose guard says no is passed over. -/
theorem skipH (i d : Nat) {oi : Oper} {fuel : Nat} {listed : Array Bool} {a : Act} {w : World} (hQ : Calm Q) (hi : ops[i]? = some oi) (hd : oi.dst = some d) (hs : Region.noSelect ops = true) (hf : Region.free md ops listed i = true) (hr : (Region.ready md ops listed).contains i = true)
    (hw : Region.wanted oi (yielded ops a.tmps) = false) (hS : S w)
    (h : wpAnyH P md ops Q S fuel (listed.setIfInBounds i true) (a.put (some d) undef) w) : wpAnyH P md ops Q S (fuel + 1) listed a w :=
  wpAnyH_take hi hs hf hr (fun c a w' => hQ c a _ _ w') (.inr ⟨hw, rfl⟩) hS (by rw [hd]; exact h)
theorem takeH (i d : Nat) (v : Value) {oi : Oper} {fuel : Nat} {listed : Array Bool} {a : Act} {w : World} (hQ : Calm Q) (hi : ops[i]? = some oi) (hd : oi.dst = some d) (hs : Region.noSelect ops = true) (hf : Region.free md ops listed i = true) (hr : (Region.ready md ops listed).contains i = true)
    (hw : Region.wanted oi (yielded ops a.tmps) = true) (hy : ∀ w, S w → (execOp a.eval oi).run P w = .ok (.value v) w) (hS : S w)
    (h : wpAnyH P md ops Q S fuel (listed.setIfInBounds i true) (a.put (some d) v) w) : wpAnyH P md ops Q S (fuel + 1) listed a w :=
  wpAnyH_take hi hs hf hr (fun c a w' => hQ c a _ _ w') (.inl ⟨hw, hy⟩) hS (by rw [hd]; exact h)
end

theorem any_take {α : Type} {p : α → Bool} {l : List α} {k : Nat} (h : k < l.length) : (l.take (k + 1)).any p = ((l.take k).any p || p l[k]) := by
  rw [List.take_succ_eq_append_getElem h, List.any_append]
  simp
theorem any_at {α : Type} {p : α → Bool} {l : List α} {k : Nat} (h : k < l.length) (hf : p l[k] = true) : l.any p = true :=
  List.any_eq_true.2 ⟨_, List.getElem_mem h, hf⟩
/-- A place is returned, that of one of which p holds, or none. -/
def IdxE {α : Type} (p : α → Bool) (l : List α) (w : World) (e : Ending) (w' : World) : Prop := ∃ z : Int, e = .returned (.int .i64 z) ∧ (0 ≤ z ↔ l.any p = true) ∧ Below w.heap.size w w'
def IdxR {α : Type} (p : α → Bool) (l : List α) (k : Nat) (w : World) (W : World) : Prop := (l.take k).any p = false ∧ Below w.heap.size w W
theorem QRow.take {w : World} {a : Option Addr} {cap : Nat} {l : List Wt} (h : QRow w (.slice a l.length cap) l) {n : Nat} (hn : n ≤ l.length) : QRow w (.slice a n cap) (l.take n) := by
  obtain ⟨a', cap', e, h1, h2, h3⟩ := h
  cases e
  have e1 : (l.take n).length = n := by rw [List.length_take]; omega
  refine ⟨a, cap, by rw [e1], by omega, h2, fun h0 => ?_⟩
  obtain ⟨b, off, ea, hbl, hc⟩ := h3 (by omega)
  exact ⟨b, off, ea, hbl, fun j hj => by
    rw [List.getElem_take]
    exact hc j (by omega)⟩
theorem nil_row (w : World) : QRow w (.slice none 0 0) [] := ⟨none, 0, rfl, Nat.le_refl _, by omega, fun h => absurd h (Nat.lt_irrefl _)⟩
theorem QRow.cap {w : World} {a : Option Addr} {n cap : Nat} {l : List Wt} (h : QRow w (.slice a n cap) l) : n = l.length ∧ l.length ≤ cap ∧ cap ≤ 9223372036854775807 := by
  obtain ⟨_, _, e, h1, h2, _⟩ := h
  cases e
  exact ⟨rfl, h1, h2⟩

set_option maxRecDepth 100000 in
set_option maxHeartbeats 1000000 in
theorem IndexFunc_any {v : Value} {l : List Wt} {w : World} (n : Nat) (he : Enters n) (c1 c2 : Value) (p : Wt → Bool) (hp : ∀ x ∈ l, ∀ W, Below w.heap.size w W → Calls Try.prog n #[wv x, c1, c2] W (BoolB (p x) W)) (h : QRow w v l) (_hl : l.length ≤ 1000) : Calls Try.prog 32 #[v, .func (.func n) #[] #[c1, c2]] w (IdxE p l w) := by
  obtain ⟨a, cap, rfl⟩ := h.slice
  have H := Lib.hid h
  have HP := Lib.hid hp
  unfold Enters at he
  clear h hp
  go_enter Try.func32, Try.ntmps32
  go_wp2
  go_loopw [5, 8] (fun _ i wr => ∃ k : Nat, k ≤ l.length ∧ i = .int .i64 k ∧ IdxR p l k w wr) (fun _ i _ => l.length - (Go.RowKit.intOf i).toNat)
  case atStart => exact ⟨0, Nat.zero_le _, rfl, by simp, Below.refl _ _⟩
  case round =>
    obtain ⟨k, hk, rfl, hr⟩ := hrel
    have HR := Lib.hid hr
    clear hr
    by_cases hlt : k < l.length
    · obtain ⟨b, off, rfl, hlc, hcap, hb, k0, k1, k2⟩ := (H.out.below HR.out.2).at hlt
      have hn := HP.out l[k] (List.getElem_mem hlt) wr HR.out.2
      unfold wv at hn
      have HAT := Lib.hid (any_take (p := p) hlt)
      have HNA := Lib.hid (any_at (p := p) hlt)
      cases hm : p l[k] with
      | false =>
        rw [hm] at hn HAT
        have HN := Lib.hid hn
        clear hm HNA hn
        go_wp2_with fail
        (with_reducible refine HN.out.mono ?_)
        rintro e w' ⟨rfl, hz⟩
        have HZ := Lib.hid (below_trans HR.out.2 hz)
        clear hz
        go_wp2_with fail
        go_roundw
        case rel => exact ⟨k + 1, by omega, by go_num, by rw [HAT.out, HR.out.1]; rfl, HZ.out⟩
        case measure => simp [Go.RowKit.intOf]; omega
      | true =>
        rw [hm] at hn
        have HN := Lib.hid hn
        have HNA2 := Lib.hid (HNA.out hm)
        clear hm HNA hn HAT
        go_wp2_with fail
        (with_reducible refine HN.out.mono ?_)
        rintro e w' ⟨rfl, hz⟩
        have HZ := Lib.hid (below_trans HR.out.2 hz)
        clear hz
        go_wp2_with fail
        go_ret
        exact ⟨k, rfl, ⟨fun _ => HNA2.out, fun _ => by omega⟩, HZ.out⟩
    · obtain rfl : k = l.length := by omega
      have HA : Hid (l.any p = false) := Lib.hid (by have := HR.out.1; rwa [List.take_length] at this)
      go_wp2
      go_ret
      exact ⟨-1, rfl, ⟨fun h => by omega, fun h => by rw [HA.out] at h; cases h⟩, HR.out.2⟩

set_option maxRecDepth 100000 in
theorem ContainsFunc_any {v : Value} {l : List Wt} {w : World} (n : Nat) (he : Enters n) (c1 c2 : Value) (p : Wt → Bool) (hp : ∀ x ∈ l, ∀ W, Below w.heap.size w W → Calls Try.prog n #[wv x, c1, c2] W (BoolB (p x) W)) (h : QRow w v l) (hl : l.length ≤ 1000) : Calls Try.prog 26 #[v, .func (.func n) #[] #[c1, c2]] w (BoolB (l.any p) w) := by
  have HI := Lib.hid (IndexFunc_any n he c1 c2 p hp h hl)
  obtain ⟨a, cap, rfl⟩ := h.slice
  clear h hp he
  go_enter Try.func26, Try.ntmps26
  go_wp2_with fail
  (with_reducible refine HI.out.mono ?_)
  rintro e w' ⟨z, rfl, hz, hb⟩
  have HZ := Lib.hid hz
  have HB := Lib.hid hb
  clear hz hb HI
  go_wp2_with fail
  go_ret
  refine ⟨ret_bool ?_, HB.out⟩
  cases hm : l.any p with
  | true => exact decide_eq_true (HZ.out.2 hm)
  | false => exact decide_eq_false (fun h => by rw [HZ.out.1 h] at hm; cases hm)

/-- Is one of that kind and order in it? -/
theorem contains_is {v : Value} {l : List Wt} {w : World} (k o : Int) {g g' : Nat} (hg : Box g [.int .i64 k] w) (hg' : Box g' [.int .i64 o] w) (h : QRow w v l) (hl : l.length ≤ 1000) : Calls Try.prog 26 #[v, .func (.func 28) #[] #[.pointer (some ⟨g, 0, none⟩), .pointer (some ⟨g', 0, none⟩)]] w (BoolB (l.any (keyB k o)) w) :=
  ContainsFunc_any 28 (enters_of Try.func28 (by kernel_rfl) rfl) _ _ (keyB k o) (fun x _ _ hW => isOf1_any k o x (hg.below hW) (hg'.below hW)) h hl
end Go.Proofs.Ytncaohdnbibkfaa.Timer
