/-
  Asking: steps of a drawn region by hand; a cell of asking turned in its block.
-/
import Derived.Test.YtbdgcfcipjehmaaAFew
import Derived.Deep.CutRange
namespace Go.Proofs.Ytbdgcfcipjehmaa.Ask
open Go.ChangeShapes Go.WideShapes Go.ChangeAt Go.RowKit Go.Lib

theorem dr (W : World) : Below W.heap.size W W.drew := (Below.refl _ _).drew
section
variable {P : Program} {md : Region.Mode} {ops : Array Oper} {Q : Exit → Act → World → Prop} {S : World → Prop}
/-- What is asked behind a panic does not hang on the frame. -/
def Calm (Q : Exit → Act → World → Prop) : Prop := ∀ c a o v w, Q (.panic c) (Act.put a o v) w → Q (.panic c) a w
theorem calm_np : Calm (NoPanic Q) := fun _ _ _ _ _ h => h
/-- An operation whose guard says no is passed over. -/
theorem skipH (i d : Nat) {oi : Oper} {fuel : Nat} {listed : Array Bool} {a : Act} {w : World} (hQ : Calm Q) (hi : ops[i]? = some oi) (hd : oi.dst = some d) (hs : Region.noSelect ops = true) (hf : Region.free md ops listed i = true) (hr : (Region.ready md ops listed).contains i = true)
    (hw : Region.wanted oi (yielded ops a.tmps) = false) (hS : S w)
    (h : wpAnyH P md ops Q S fuel (listed.setIfInBounds i true) (a.put (some d) undef) w) : wpAnyH P md ops Q S (fuel + 1) listed a w :=
  wpAnyH_take hi hs hf hr (fun c a w' => hQ c a _ _ w') (.inr ⟨hw, rfl⟩) hS (by rw [hd]; exact h)
theorem takeH (i d : Nat) (v : Value) {oi : Oper} {fuel : Nat} {listed : Array Bool} {a : Act} {w : World} (hQ : Calm Q) (hi : ops[i]? = some oi) (hd : oi.dst = some d) (hs : Region.noSelect ops = true) (hf : Region.free md ops listed i = true) (hr : (Region.ready md ops listed).contains i = true)
    (hw : Region.wanted oi (yielded ops a.tmps) = true) (hy : ∀ w, S w → (execOp a.eval oi).run P w = .ok (.value v) w) (hS : S w)
    (h : wpAnyH P md ops Q S fuel (listed.setIfInBounds i true) (a.put (some d) v) w) : wpAnyH P md ops Q S (fuel + 1) listed a w :=
  wpAnyH_take hi hs hf hr (fun c a w' => hQ c a _ _ w') (.inl ⟨hw, hy⟩) hS (by rw [hd]; exact h)
end

theorem box_set0 {b : Nat} {c0 c1 x : Value} {w : World} (h : Box b [c0, c1] w) : Box b [x, c1] (w.setCell ⟨b, 0, none⟩ x) := by
  obtain ⟨k0, k1⟩ := h.c2
  obtain ⟨z0, z1⟩ := h.z2
  refine ⟨by simpa using h.1, fun j v hj => ?_⟩
  match j, hj with
  | 0, hj => cases hj; exact ⟨by simp [go_sem, k0], by simp [go_sem, z0]⟩
  | 1, hj => cases hj; exact ⟨by simp [go_sem, k1], by simp [go_sem, z1]⟩
  | j + 2, hj => cases hj
/-- May's answer, by what is asked. -/
theorem may_ways (p : As) (t : Int) : (rightB p = false ∧ mayB p t = false) ∨ (rightB p = true ∧ (p.s == 2) = false ∧ mayB p t = false) ∨ (rightB p = true ∧ (p.s == 2) = true ∧ p.u > t ∧ mayB p t = true) ∨ (rightB p = true ∧ (p.s == 2) = true ∧ ¬ p.u > t ∧ mayB p t = false) := by
  cases hr : rightB p with
  | false => exact .inl ⟨rfl, mayB_f.2 (fun h => by rw [rightB_t.2 h.1] at hr; cases hr)⟩
  | true =>
    have h := rightB_t.1 hr
    by_cases h1 : p.s = 2
    · by_cases h2 : t < p.u
      · exact .inr (.inr (.inl ⟨rfl, by simpa using h1, h2, mayB_t.2 ⟨h, h1, h2⟩⟩))
      · exact .inr (.inr (.inr ⟨rfl, by simpa using h1, h2, mayB_f.2 (fun g => h2 g.2.2)⟩))
    · exact .inr (.inl ⟨rfl, by simpa using h1, mayB_f.2 (fun g => h1 g.2.1)⟩)
end Go.Proofs.Ytbdgcfcipjehmaa.Ask
