/-
  Steps of a drawn region by hand; those of one whose last operations write the cells that its loads read.
-/
import Derived.Test.YtkfjhfneagjejaaNCat
import Derived.Deep.CutRange
import Derived.BigQuiet
namespace Go.Proofs.Ytkfjhfneagjejaa.Queue
open Go.ChangeShapes Go.WideShapes Go.ChangeAt Go.RowKit
theorem Box.at {b : Nat} {vs : List Value} {w : World} (h : Box b vs w) (j : Nat) {v : Value} (hj : vs[j]? = some v) : w.cell? ⟨b, j, none⟩ = some v := (h.2 j v hj).1
end Go.Proofs.Ytkfjhfneagjejaa.Queue
namespace Go.Proofs.Ytkfjhfneagjejaa.Net
open Go.ChangeShapes Go.WideShapes Go.ChangeAt Go.RowKit Go.Shelf Go.Lib
open Go.Proofs.Ytkfjhfneagjejaa.Queue (Box al dr below_trans ret_bool BoolB)

section
variable {P : Program} {md : Region.Mode} {ops : Array Oper} {Q : Exit → Act → World → Prop} {S : World → Prop}
/-- What is asked behind a panic does not hang on the frame. -/
def Calm (Q : Exit → Act → World → Prop) : Prop := ∀ c a o v w, Q (.panic c) (Act.put a o v) w → Q (.panic c) a w
theorem calm_np : Calm (NoPanic Q) := fun _ _ _ _ _ h => h
/-- An operation whose guard says no is passed over. -/
theorem skipH (i d : Nat) {oi : Oper} {fuel : Nat} {listed : Array Bool} {a : Act} {w : World} (hQ : Calm Q) (hi : ops[i]? = some oi) (hd : oi.dst = some d) (hs : Region.noSelect ops = true) (hf : Region.free md ops listed i = true) (hr : (Region.ready md ops listed).contains i = true)
    (hw : Region.wanted oi (yielded ops a.tmps) = false) (hS : S w)
    (h : wpAnyH P md ops Q S fuel (listed.setIfInBounds i true) (a.put (some d) undef) w) : wpAnyH P md ops Q S (fuel + 1) listed a w :=
  wpAnyH_take hi hs hf hr (fun c a w' => hQ c a _ _ w') (.inr ⟨hw, rfl⟩) hS (by rw [hd]; exact h)
theorem takeH (i d : Nat) (v : Value) {oi : Oper} {fuel : Nat} {listed : Array Bool} {a : Act} {w : World} (hQ : Calm Q) (hi : ops[i]? = some oi) (hd : oi.dst = some d) (hs : Region.noSelect ops = true) (hf : Region.free md ops listed i = true) (hr : (Region.ready md ops listed).contains i = true)
    (hw : Region.wanted oi (yielded ops a.tmps) = true) (hy : ∀ w, S w → (execOp a.eval oi).run P w = .ok (.value v) w) (hS : S w)
    (h : wpAnyH P md ops Q S fuel (listed.setIfInBounds i true) (a.put (some d) v) w) : wpAnyH P md ops Q S (fuel + 1) listed a w :=
  wpAnyH_take hi hs hf hr (fun c a w' => hQ c a _ _ w') (.inl ⟨hw, hy⟩) hS (by rw [hd]; exact h)
end
section
variable {P : Program} {ops : Array Oper} {Q : Exit → Act → World → Prop} {md : Region.Mode} {S : World → Prop} {B : Nat → Bool}

/-- In whatever order it goes on: behind each operation that is none of B the world is such as S says. -/
def Till (P : Program) (md : Region.Mode) (ops : Array Oper) (Q : Exit → Act → World → Prop) (S : World → Prop) (B : Nat → Bool) : Nat → Array Bool → Act → World → Prop
  | 0, done, a, w => Region.ready md ops done = [] ∧ Q .normal a w
  | n + 1, done, a, w => (Region.ready md ops done = [] → Q .normal a w) ∧
      ∀ j ∈ Region.ready md ops done, wpOp P ops Q j (fun a' w' => (B j = false → S w') ∧ Till P md ops Q S B n (done.setIfInBounds j true) a' w') a w

theorem till_any : ∀ (n : Nat) (done : Array Bool) (a : Act) (w : World), Till P md ops Q S B n done a w → wpAny P md ops Q n done a w
  | 0, _, _, _, h => h
  | n + 1, _, _, _, h => ⟨h.1, fun j hj => wpOp_mono (fun a' w' hk => till_any n _ a' w' hk.2) (h.2 j hj)⟩

/-- Each of K waits for i, or for another one of K; all of B are of K; none of K has come up. -/
def waitsK (md : Region.Mode) (ops : Array Oper) (B : Nat → Bool) (K : List Nat) (i : Nat) : Bool :=
  (List.range ops.size).all fun j => (!B j || K.contains j) && (!K.contains j || match ops[j]? with | some o => o.after.any (fun e => Region.binds md e && (e.on == i || K.contains e.on)) | none => true)
def noneK (K : List Nat) (done : Array Bool) : Bool := K.all fun k => !done.getD k true
theorem waitsK_in {K : List Nat} {i : Nat} (h : waitsK md ops B K i = true) {j : Nat} {o : Oper} (ho : ops[j]? = some o) : (B j = true → K.contains j = true) ∧ (K.contains j = true → ∃ e ∈ o.after, Region.binds md e = true ∧ (e.on = i ∨ K.contains e.on = true)) := by
  have h1 := List.all_eq_true.1 h j (List.mem_range.2 (Array.getElem?_eq_some_iff.1 ho).1)
  rw [ho] at h1
  simp only [Bool.and_eq_true, Bool.or_eq_true, Bool.not_eq_true'] at h1
  refine ⟨fun hb => ?_, fun hk => ?_⟩
  · rcases h1.1 with h2 | h2
    · rw [hb] at h2; cases h2
    · exact h2
  · rcases h1.2 with h2 | h2
    · rw [hk] at h2; cases h2
    · obtain ⟨e, he, h3⟩ := Array.any_eq_true'.1 h2
      simp only [Bool.and_eq_true, Bool.or_eq_true, beq_iff_eq] at h3
      exact ⟨e, he, h3.1, h3.2⟩
theorem noneK_at {K : List Nat} {done : Array Bool} (h : noneK K done = true) {k : Nat} (hk : K.contains k = true) : done.getD k true = false := by
  have := List.all_eq_true.1 h k (by simpa using hk)
  simpa using this
theorem undone {done : Array Bool} {k : Nat} (h : done.getD k true = false) (b : Bool) : ¬ done.getD k b = true := by
  intro hb
  rcases Nat.lt_or_ge k done.size with hl | hl
  · simp [hl] at h hb
    rw [h] at hb
    cases hb
  · simp [Array.getElem?_eq_none hl] at h

/-- One that may come up, and whose value hangs on S alone, is taken first. -/
theorem till_take {i : Nat} {oi : Oper} {v : Value} (hi : ops[i]? = some oi) (hns : Region.noSelect ops = true)
    (hQ : ∀ c a w, Q (.panic c) (a.put oi.dst v) w → Q (.panic c) a w) (hB : B i = false) {K : List Nat} (hwB : waitsK md ops B K i = true) (n : Nat) :
    ∀ (done : Array Bool) (a : Act) (w : World),
      (∀ j oj, ops[j]? = some oj → j ≠ i → done.getD j true = false → (∀ e ∈ oj.after, Region.binds md e = true → e.on ≠ i) → oi.apart ops oj = true) →
      noneK K done = true → i ∈ Region.ready md ops done → YieldsIf P ops S oi v a → S w →
      Till P md ops Q S B n (done.setIfInBounds i true) (a.put oi.dst v) w → Till P md ops Q S B (n + 1) done a w := by
  induction n with
  | zero =>
    intro done a w _ _ hr hy hS h
    refine ⟨fun e => absurd hr (by rw [e]; exact List.not_mem_nil), fun j hj => ?_⟩
    by_cases c : j = i
    · subst c
      exact hy.wpOp hi hS ⟨fun _ => hS, h⟩
    · have := ready_mono hj c
      rw [h.1] at this
      exact absurd this List.not_mem_nil
  | succ n ih =>
    intro done a w hfree hnK hr hy hS h
    refine ⟨fun e => absurd hr (by rw [e]; exact List.not_mem_nil), fun j hj => ?_⟩
    by_cases c : j = i
    · subst c
      exact hy.wpOp hi hS ⟨fun _ => hS, h⟩
    obtain ⟨hun, oj, hoj, hall⟩ := mem_ready.1 hj
    have hno : ∀ e ∈ oj.after, Region.binds md e = true → e.on ≠ i := fun e he hb heq => undone (mem_ready.1 hr).1 false (heq ▸ hall e he hb)
    have hKj : K.contains j = false := by
      cases hc : K.contains j with
      | false => rfl
      | true =>
        obtain ⟨e, he, hb, h3⟩ := (waitsK_in hwB hoj).2 hc
        rcases h3 with h3 | h3
        · exact absurd h3 (hno e he hb)
        · exact absurd (hall e he hb) (undone (noneK_at hnK h3) false)
    have hBj : B j = false := by
      cases hc : B j with
      | false => rfl
      | true => rw [(waitsK_in hwB hoj).1 hc] at hKj; cases hKj
    have hnK' : noneK K (done.setIfInBounds j true) = true := List.all_eq_true.2 fun k hk => by
      have hk' : K.contains k = true := by simpa using hk
      have hne : j ≠ k := fun e => by rw [e, hk'] at hKj; cases hKj
      rw [getD_set_ne true hne, noneK_at hnK hk']
      rfl
    have hstep := wpOp_putIf hoj (hfree j oj hoj c hun hno) (fun cs b => Region.noSelect_spec hns i oi cs b hi) (fun cs b => Region.noSelect_spec hns j oj cs b hoj) hQ hy (h.2 j (ready_mono hj c))
    refine wpOp_mono (fun a' w' hk => ?_) hstep
    have hS' : S w' := hk.2.1 hBj
    refine ⟨fun _ => hS', ih (done.setIfInBounds j true) a' w' (fun k ok hok hki hkun hkno => ?_) hnK' (ready_mono hr (Ne.symm c)) hk.1 hS' ?_⟩
    · refine hfree k ok hok hki ?_ hkno
      by_cases cjk : j = k
      · subst cjk; exact hun
      · rwa [getD_set_ne true cjk] at hkun
    · rw [Array.setIfInBounds_comm _ _ c]
      exact hk.2.2

/-- Taken first, its slot and value given. -/
theorem takeT (i d : Nat) (K : List Nat) (v : Value) {oi : Oper} {n : Nat} {done : Array Bool} {a : Act} {w : World} (hQ : Calm Q) (hi : ops[i]? = some oi) (hd : oi.dst = some d) (hns : Region.noSelect ops = true) (hB : B i = false) (hwB : waitsK md ops B K i = true) (hnK : noneK K done = true)
    (hf : Region.free md ops done i = true) (hr : (Region.ready md ops done).contains i = true) (hw : Region.wanted oi (yielded ops a.tmps) = true) (hy : ∀ w, S w → (execOp a.eval oi).run P w = .ok (.value v) w) (hS : S w)
    (h : Till P md ops Q S B n (done.setIfInBounds i true) (a.put (some d) v) w) : Till P md ops Q S B (n + 1) done a w :=
  till_take hi hns (fun c a w' => hQ c a _ _ w') hB hwB n done a w (fun j oj hj hne hun hno => Region.free_spec hi hf j oj hj hne hun hno) hnK (by simpa using hr) (.inl ⟨hw, hy⟩) hS (by rw [hd]; exact h)

def Each (P : Program) (md : Region.Mode) (ops : Array Oper) (Q : Exit → Act → World → Prop) (S : World → Prop) (B : Nat → Bool) (n : Nat) (done : Array Bool) (a : Act) (w : World) (rs : List Nat) : Prop :=
  ∀ j ∈ rs, wpOp P ops Q j (fun a' w' => (B j = false → S w') ∧ Till P md ops Q S B n (done.setIfInBounds j true) a' w') a w
theorem Each.nil {n : Nat} {done : Array Bool} {a : Act} {w : World} : Each P md ops Q S B n done a w [] := fun _ h => absurd h List.not_mem_nil
theorem Each.cons {n : Nat} {done : Array Bool} {a : Act} {w : World} {i : Nat} {o : Oper} {rs : List Nat} (ho : ops[i]? = some o)
    (h : ∀ K : Act → World → Prop, Shut (∀ a w, (B i = false → S w) → Till P md ops Q S B n (done.setIfInBounds i true) a w → K a w) → if Region.wanted o (yielded ops a.tmps) = true then Oper.wp P o a w K Q else K (a.put o.dst undef) w)
    (hs : Each P md ops Q S B n done a w rs) : Each P md ops Q S B n done a w (i :: rs) := fun j hj => by
  rcases List.mem_cons.1 hj with rfl | hj
  · exact wpOp_step ho (fun K hK => h K (fun a w h1 h2 => hK a w ⟨h1, h2⟩))
  · exact hs j hj
theorem till_ready {rs : List Nat} {n : Nat} {done : Array Bool} {a : Act} {w : World} (hr : Region.ready md ops done = rs) (hne : rs ≠ []) (h : Each P md ops Q S B n done a w rs) : Till P md ops Q S B (n + 1) done a w :=
  ⟨fun e => absurd (hr ▸ e) hne, hr ▸ h⟩
theorem till_done {done : Array Bool} {a : Act} {w : World} (hr : Region.ready md ops done = []) (h : Q .normal a w) : ∀ n, Till P md ops Q S B n done a w
  | 0 => ⟨hr, h⟩
  | _ + 1 => ⟨fun _ => h, by rw [hr]; exact fun _ h => absurd h List.not_mem_nil⟩
theorem till_region {id : Nat} {a : Act} {w : World} (S : World → Prop) (B : Nat → Bool) (hm : P.follows .mixedOrders = true) (h : Till P .any ops Q S B ops.size (Array.replicate ops.size false) a w.drew) : (Code.region id ops true).wp P Q a w :=
  wp_region_any hm (till_any _ _ _ _ h)
end
end Go.Proofs.Ytkfjhfneagjejaa.Net
