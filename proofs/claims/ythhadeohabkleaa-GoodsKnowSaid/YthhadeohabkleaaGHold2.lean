/-
  The same, where operations that hang on nothing may come up behind the writing ones.
-/
import Derived.Test.YthhadeohabkleaaGHold
namespace Go.Proofs.Ythhadeohabkleaa.Goods
open Go.ChangeShapes Go.WideShapes Go.ChangeAt Go.RowKit Go.Shelf Go.Lib

section
variable {P : Program} {ops : Array Oper} {Q : Exit → Act → World → Prop} {md : Region.Mode} {S : World → Prop} {B : Nat → Bool}

/-- None of B has come up. -/
def Clear (B : Nat → Bool) (done : Array Bool) : Prop := ∀ b, B b = true → done.getD b false = false
/-- In whatever order it goes on: as long as none of B has come up, the world behind each operation that is none of B is such as S says. -/
def Till2 (P : Program) (md : Region.Mode) (ops : Array Oper) (Q : Exit → Act → World → Prop) (S : World → Prop) (B : Nat → Bool) : Nat → Array Bool → Act → World → Prop
  | 0, done, a, w => Region.ready md ops done = [] ∧ Q .normal a w
  | n + 1, done, a, w => (Region.ready md ops done = [] → Q .normal a w) ∧
      ∀ j ∈ Region.ready md ops done, wpOp P ops Q j (fun a' w' => (Clear B done → B j = false → S w') ∧ Till2 P md ops Q S B n (done.setIfInBounds j true) a' w') a w

theorem till2_any : ∀ (n : Nat) (done : Array Bool) (a : Act) (w : World), Till2 P md ops Q S B n done a w → wpAny P md ops Q n done a w
  | 0, _, _, _, h => h
  | n + 1, _, _, _, h => ⟨h.1, fun j hj => wpOp_mono (fun a' w' hk => till2_any n _ a' w' hk.2) (h.2 j hj)⟩
theorem undone_false {done : Array Bool} {k : Nat} (h : done.getD k true = false) : done.getD k false = false := by
  cases hc : done.getD k false with
  | false => rfl
  | true => exact absurd hc (undone h false)
theorem clear_off {done : Array Bool} {j : Nat} (h : Clear B (done.setIfInBounds j true)) (hun : done.getD j true = false) : Clear B done ∧ B j = false := by
  have hj : B j = false := by
    cases hc : B j with
    | false => rfl
    | true =>
      have h1 := h j hc
      rcases Nat.lt_or_ge j done.size with hl | hl
      · simp [hl] at h1
      · simp [Array.getElem?_eq_none hl] at hun
  refine ⟨fun b hb => ?_, hj⟩
  have hne : j ≠ b := fun e => by rw [e, hb] at hj; cases hj
  have := h b hb
  rwa [getD_set_ne false hne] at this
theorem clear_on {done : Array Bool} {j : Nat} (h : Clear B done) (hj : B j = false) : Clear B (done.setIfInBounds j true) := fun b hb => by
  have hne : j ≠ b := fun e => by rw [e, hb] at hj; cases hj
  rw [getD_set_ne false hne]
  exact h b hb

/-- One whose value hangs on nothing. -/
theorem till2_pure {i : Nat} {oi : Oper} {v : Value} (hi : ops[i]? = some oi) (hns : Region.noSelect ops = true)
    (hQ : ∀ c a w, Q (.panic c) (a.put oi.dst v) w → Q (.panic c) a w) (hB : B i = false) (n : Nat) :
    ∀ (done : Array Bool) (a : Act) (w : World),
      (∀ j oj, ops[j]? = some oj → j ≠ i → done.getD j true = false → (∀ e ∈ oj.after, Region.binds md e = true → e.on ≠ i) → oi.apart ops oj = true) →
      i ∈ Region.ready md ops done → YieldsIf P ops (fun _ => True) oi v a → (Clear B done → S w) →
      Till2 P md ops Q S B n (done.setIfInBounds i true) (a.put oi.dst v) w → Till2 P md ops Q S B (n + 1) done a w := by
  induction n with
  | zero =>
    intro done a w _ hr hy hS h
    refine ⟨fun e => absurd hr (by rw [e]; exact List.not_mem_nil), fun j hj => ?_⟩
    by_cases c : j = i
    · subst c
      exact hy.wpOp hi trivial ⟨fun hc _ => hS hc, h⟩
    · have := ready_mono hj c
      rw [h.1] at this
      exact absurd this List.not_mem_nil
  | succ n ih =>
    intro done a w hfree hr hy hS h
    refine ⟨fun e => absurd hr (by rw [e]; exact List.not_mem_nil), fun j hj => ?_⟩
    by_cases c : j = i
    · subst c
      exact hy.wpOp hi trivial ⟨fun hc _ => hS hc, h⟩
    obtain ⟨hun, oj, hoj, hall⟩ := mem_ready.1 hj
    have hno : ∀ e ∈ oj.after, Region.binds md e = true → e.on ≠ i := fun e he hb heq => undone (mem_ready.1 hr).1 false (heq ▸ hall e he hb)
    have hstep := wpOp_putIf hoj (hfree j oj hoj c hun hno) (fun cs b => Region.noSelect_spec hns i oi cs b hi) (fun cs b => Region.noSelect_spec hns j oj cs b hoj) hQ hy (h.2 j (ready_mono hj c))
    refine wpOp_mono (fun a' w' hk => ?_) hstep
    have hS' : Clear B done → B j = false → S w' := fun hc hb => hk.2.1 (clear_on hc hB) hb
    refine ⟨hS', ih (done.setIfInBounds j true) a' w' (fun k ok hok hki hkun hkno => ?_) (ready_mono hr (Ne.symm c)) hk.1 (fun hc => hS' (clear_off hc hun).1 (clear_off hc hun).2) ?_⟩
    · refine hfree k ok hok hki ?_ hkno
      by_cases cjk : j = k
      · subst cjk; exact hun
      · rwa [getD_set_ne true cjk] at hkun
    · rw [Array.setIfInBounds_comm _ _ c]
      exact hk.2.2
/-- One whose value hangs on S alone, for which all of B wait. -/
theorem till2_take {i : Nat} {oi : Oper} {v : Value} (hi : ops[i]? = some oi) (hns : Region.noSelect ops = true)
    (hQ : ∀ c a w, Q (.panic c) (a.put oi.dst v) w → Q (.panic c) a w) (hB : B i = false) {K : List Nat} (hwB : waitsK md ops B K i = true) (hout : ∀ b, ops.size ≤ b → B b = true → K.contains b = true) (n : Nat) :
    ∀ (done : Array Bool) (a : Act) (w : World),
      (∀ j oj, ops[j]? = some oj → j ≠ i → done.getD j true = false → (∀ e ∈ oj.after, Region.binds md e = true → e.on ≠ i) → oi.apart ops oj = true) →
      noneK K done = true → i ∈ Region.ready md ops done → YieldsIf P ops S oi v a → S w →
      Till2 P md ops Q S B n (done.setIfInBounds i true) (a.put oi.dst v) w → Till2 P md ops Q S B (n + 1) done a w := by
  have hBK : ∀ b, B b = true → K.contains b = true := fun b hb => by
    rcases Nat.lt_or_ge b ops.size with hl | hl
    · exact (waitsK_in hwB (Array.getElem?_eq_getElem hl)).1 hb
    · exact hout b hl hb
  have hclear : ∀ done, noneK K done = true → Clear B done := fun done hn b hb => undone_false (noneK_at hn (hBK b hb))
  induction n with
  | zero =>
    intro done a w _ _ hr hy hS h
    refine ⟨fun e => absurd hr (by rw [e]; exact List.not_mem_nil), fun j hj => ?_⟩
    by_cases c : j = i
    · subst c
      exact hy.wpOp hi hS ⟨fun _ _ => hS, h⟩
    · have := ready_mono hj c
      rw [h.1] at this
      exact absurd this List.not_mem_nil
  | succ n ih =>
    intro done a w hfree hnK hr hy hS h
    refine ⟨fun e => absurd hr (by rw [e]; exact List.not_mem_nil), fun j hj => ?_⟩
    by_cases c : j = i
    · subst c
      exact hy.wpOp hi hS ⟨fun _ _ => hS, h⟩
    obtain ⟨hun, oj, hoj, hall⟩ := mem_ready.1 hj
    have hno : ∀ e ∈ oj.after, Region.binds md e = true → e.on ≠ i := fun e he hb heq => undone (mem_ready.1 hr).1 false (heq ▸ hall e he hb)
    have hKj : K.contains j = false := by
      cases hc : K.contains j with
      | false => rfl
      | true =>
        obtain ⟨e, he, hb, h3⟩ := (waitsK_in hwB hoj).2 hc
        rcases h3 with h3 | h3
        · exact absurd h3 (hno e he hb)
        · exact absurd (hall e he hb) (undone (noneK_at hnK h3) false)
    have hBj : B j = false := by
      cases hc : B j with
      | false => rfl
      | true => rw [hBK j hc] at hKj; cases hKj
    have hnK' : noneK K (done.setIfInBounds j true) = true := List.all_eq_true.2 fun k hk => by
      have hk' : K.contains k = true := by simpa using hk
      have hne : j ≠ k := fun e => by rw [e, hk'] at hKj; cases hKj
      rw [getD_set_ne true hne, noneK_at hnK hk']
      rfl
    have hstep := wpOp_putIf hoj (hfree j oj hoj c hun hno) (fun cs b => Region.noSelect_spec hns i oi cs b hi) (fun cs b => Region.noSelect_spec hns j oj cs b hoj) hQ hy (h.2 j (ready_mono hj c))
    refine wpOp_mono (fun a' w' hk => ?_) hstep
    have hS' : S w' := hk.2.1 (clear_on (hclear done hnK) hB) hBj
    refine ⟨fun _ _ => hS', ih (done.setIfInBounds j true) a' w' (fun k ok hok hki hkun hkno => ?_) hnK' (ready_mono hr (Ne.symm c)) hk.1 hS' ?_⟩
    · refine hfree k ok hok hki ?_ hkno
      by_cases cjk : j = k
      · subst cjk; exact hun
      · rwa [getD_set_ne true cjk] at hkun
    · rw [Array.setIfInBounds_comm _ _ c]
      exact hk.2.2

theorem takeP (i d : Nat) (v : Value) {oi : Oper} {n : Nat} {done : Array Bool} {a : Act} {w : World} (hQ : Calm Q) (hi : ops[i]? = some oi) (hd : oi.dst = some d) (hns : Region.noSelect ops = true) (hB : B i = false)
    (hf : Region.free md ops done i = true) (hr : (Region.ready md ops done).contains i = true) (hw : Region.wanted oi (yielded ops a.tmps) = true) (hy : ∀ w : World, (execOp a.eval oi).run P w = .ok (.value v) w) (hS : Clear B done → S w)
    (h : Till2 P md ops Q S B n (done.setIfInBounds i true) (a.put (some d) v) w) : Till2 P md ops Q S B (n + 1) done a w :=
  till2_pure hi hns (fun c a w' => hQ c a _ _ w') hB n done a w (fun j oj hj hne hun hno => Region.free_spec hi hf j oj hj hne hun hno) (by simpa using hr) (.inl ⟨hw, fun w _ => hy w⟩) hS (by rw [hd]; exact h)
theorem takeS (i d : Nat) (K : List Nat) (v : Value) {oi : Oper} {n : Nat} {done : Array Bool} {a : Act} {w : World} (hQ : Calm Q) (hi : ops[i]? = some oi) (hd : oi.dst = some d) (hns : Region.noSelect ops = true) (hB : B i = false) (hwB : waitsK md ops B K i = true) (hout : ∀ b, ops.size ≤ b → B b = true → K.contains b = true) (hnK : noneK K done = true)
    (hf : Region.free md ops done i = true) (hr : (Region.ready md ops done).contains i = true) (hw : Region.wanted oi (yielded ops a.tmps) = true) (hy : ∀ w, S w → (execOp a.eval oi).run P w = .ok (.value v) w) (hS : S w)
    (h : Till2 P md ops Q S B n (done.setIfInBounds i true) (a.put (some d) v) w) : Till2 P md ops Q S B (n + 1) done a w :=
  till2_take hi hns (fun c a w' => hQ c a _ _ w') hB hwB hout n done a w (fun j oj hj hne hun hno => Region.free_spec hi hf j oj hj hne hun hno) hnK (by simpa using hr) (.inl ⟨hw, hy⟩) hS (by rw [hd]; exact h)

def Each2 (P : Program) (md : Region.Mode) (ops : Array Oper) (Q : Exit → Act → World → Prop) (S : World → Prop) (B : Nat → Bool) (n : Nat) (done : Array Bool) (a : Act) (w : World) (rs : List Nat) : Prop :=
  ∀ j ∈ rs, wpOp P ops Q j (fun a' w' => (Clear B done → B j = false → S w') ∧ Till2 P md ops Q S B n (done.setIfInBounds j true) a' w') a w
theorem Each2.nil {n : Nat} {done : Array Bool} {a : Act} {w : World} : Each2 P md ops Q S B n done a w [] := fun _ h => absurd h List.not_mem_nil
theorem Each2.cons {n : Nat} {done : Array Bool} {a : Act} {w : World} {i : Nat} {o : Oper} {rs : List Nat} (ho : ops[i]? = some o)
    (h : ∀ K : Act → World → Prop, Shut (∀ a w, (Clear B done → B i = false → S w) → Till2 P md ops Q S B n (done.setIfInBounds i true) a w → K a w) → if Region.wanted o (yielded ops a.tmps) = true then Oper.wp P o a w K Q else K (a.put o.dst undef) w)
    (hs : Each2 P md ops Q S B n done a w rs) : Each2 P md ops Q S B n done a w (i :: rs) := fun j hj => by
  rcases List.mem_cons.1 hj with rfl | hj
  · exact wpOp_step ho (fun K hK => h K (fun a w h1 h2 => hK a w ⟨h1, h2⟩))
  · exact hs j hj
theorem till2_ready {rs : List Nat} {n : Nat} {done : Array Bool} {a : Act} {w : World} (hr : Region.ready md ops done = rs) (hne : rs ≠ []) (h : Each2 P md ops Q S B n done a w rs) : Till2 P md ops Q S B (n + 1) done a w :=
  ⟨fun e => absurd (hr ▸ e) hne, hr ▸ h⟩
theorem till2_done {done : Array Bool} {a : Act} {w : World} (hr : Region.ready md ops done = []) (h : Q .normal a w) : ∀ n, Till2 P md ops Q S B n done a w
  | 0 => ⟨hr, h⟩
  | _ + 1 => ⟨fun _ => h, by rw [hr]; exact fun _ h => absurd h List.not_mem_nil⟩
theorem till2_region {id : Nat} {a : Act} {w : World} (S : World → Prop) (B : Nat → Bool) (hm : P.follows .mixedOrders = true) (h : Till2 P .any ops Q S B ops.size (Array.replicate ops.size false) a w.drew) : (Code.region id ops true).wp P Q a w :=
  wp_region_any hm (till2_any _ _ _ _ h)
end
end Go.Proofs.Ythhadeohabkleaa.Goods
