/-
  A region that draws its order, by a relation on what has been listed: values come into slots, blocks are made and written, in whatever order.
-/
import Derived.Test.YtjmmijobdcepmaaOHand
import Derived.Deep.RegionWith
namespace Go.Proofs.Ytjmmijobdcepmaa.Order
open Go.ChangeShapes Go.WideShapes Go.ChangeAt Go.RowKit Go.Lib

section
variable {P : Program} {md : Region.Mode} {ops : Array Oper} {Q : Exit → Act → World → Prop}

theorem getD_set {α : Type} (L : Array α) (i j : Nat) (v d : α) : (L.setIfInBounds i v).getD j d = if j = i ∧ i < L.size then v else L.getD j d := by
  simp only [Array.getD_eq_getD_getElem?, Array.getElem?_setIfInBounds]
  by_cases h : i = j
  · subst h
    by_cases h2 : i < L.size
    · simp [h2]
    · simp [h2]
  · have h' : ¬ j = i := fun e => h e.symm
    simp [h, h']
/-- How many are not listed yet. -/
def todo (L : Array Bool) : Nat := L.toList.countP (fun b => !b)
theorem todo_set {L : Array Bool} {i : Nat} (h : L.getD i true = false) : todo (L.setIfInBounds i true) + 1 = todo L := by
  have key : ∀ (l : List Bool) (i : Nat), l[i]? = some false → (l.set i true).countP (fun b => !b) + 1 = l.countP (fun b => !b) := by
    intro l
    induction l with
    | nil => intro i h; cases h
    | cons b r ih =>
      intro i h
      cases i with
      | zero => obtain rfl : b = false := by simpa using h
                simp
      | succ i =>
        have := ih i (by simpa using h)
        cases b <;> simp at this ⊢ <;> omega
  have hi : i < L.size := by
    by_cases hi : i < L.size
    · exact hi
    · rw [Array.getD_eq_getD_getElem?, Array.getElem?_eq_none (by omega)] at h; cases h
  unfold todo
  rw [Array.toList_setIfInBounds]
  refine key _ _ ?_
  rw [Array.getD_eq_getD_getElem?, Array.getElem?_eq_getElem hi] at h
  rw [Array.getElem?_toList, Array.getElem?_eq_getElem hi]
  simpa using h
theorem ready_of {L : Array Bool} {i : Nat} (h : i ∈ Region.ready md ops L) : L.getD i true = false ∧ ∀ o, ops[i]? = some o → ∀ e ∈ o.after, Region.binds md e = true → L.getD e.on false = true := by
  unfold Region.ready at h
  simp only [List.mem_filter, Bool.and_eq_true, Bool.not_eq_true'] at h
  refine ⟨h.2.1, fun o ho e he hb => ?_⟩
  have := h.2.2
  rw [ho] at this
  simp only [Option.map_some, Option.getD_some, Array.all_eq_true_iff_forall_mem] at this
  have := this e he
  rw [hb] at this
  simpa using this
/-- Edges go back; so when none is ready all are listed. -/
def backB (ops : Array Oper) : Bool := (List.range ops.size).all fun i => ((ops[i]?).map (·.after.all fun e => decide (e.on < i))).getD true
theorem ready_none {L : Array Bool} (hs : L.size = ops.size) (hb : backB ops = true) (h : Region.ready md ops L = []) : ∀ i, i < ops.size → L.getD i false = true := by
  intro i
  induction i using Nat.strongRecOn with
  | ind i ih =>
    intro hi
    cases hg : L.getD i false with
    | true => rfl
    | false =>
      exfalso
      have hm : i ∈ Region.ready md ops L := by
        unfold Region.ready
        simp only [List.mem_filter, List.mem_range, Bool.and_eq_true, Bool.not_eq_true']
        refine ⟨hi, ?_, ?_⟩
        · rw [Array.getD_eq_getD_getElem?, Array.getElem?_eq_getElem (by omega)] at hg ⊢
          simpa using hg
        · rw [Array.getElem?_eq_getElem hi]
          simp only [Option.map_some, Option.getD_some, Array.all_eq_true_iff_forall_mem]
          intro e he
          have hb' := List.all_eq_true.1 hb i (List.mem_range.2 hi)
          rw [Array.getElem?_eq_getElem hi] at hb'
          simp only [Option.map_some, Option.getD_some, Array.all_eq_true_iff_forall_mem, decide_eq_true_eq] at hb'
          have hlt := hb' e he
          rw [ih e.on hlt (by omega)]
          simp
      rw [h] at hm
      cases hm
theorem inv_any {I : Array Bool → Act → World → Prop} (hback : backB ops = true) (hsz : ∀ L a w, I L a w → L.size = ops.size)
    (hstep : ∀ L a w i, I L a w → i < ops.size → L.getD i true = false → (∀ o, ops[i]? = some o → ∀ e ∈ o.after, Region.binds md e = true → L.getD e.on false = true) → wpOp P ops Q i (I (L.setIfInBounds i true)) a w)
    (hend : ∀ L a w, I L a w → (∀ i, i < ops.size → L.getD i false = true) → Q .normal a w) : ∀ n L a w, todo L ≤ n → I L a w → wpAny P md ops Q n L a w
  | 0, L, a, w, hn, hI => by
    have hr : Region.ready md ops L = [] := by
      refine List.eq_nil_iff_forall_not_mem.2 fun i hi => ?_
      have := todo_set (ready_of hi).1
      omega
    exact ⟨hr, hend L a w hI (ready_none (hsz _ _ _ hI) hback hr)⟩
  | n + 1, L, a, w, hn, hI => by
    refine ⟨fun hr => hend L a w hI (ready_none (hsz _ _ _ hI) hback hr), fun i hi => ?_⟩
    obtain ⟨h1, h2⟩ := ready_of hi
    have hlt : i < ops.size := by
      unfold Region.ready at hi
      exact List.mem_range.1 (List.mem_filter.1 hi).1
    have ht := todo_set h1
    exact wpOp_mono (fun a' w' h => inv_any hback hsz hstep hend n _ a' w' (by omega) h) (hstep L a w i hI hlt h1 h2)
theorem todo_none (n : Nat) : todo (Array.replicate n false) ≤ n := by
  unfold todo
  refine Nat.le_trans List.countP_le_length (by simp)
theorem wp_region_inv {I : Array Bool → Act → World → Prop} {id : Nat} {a : Act} {w : World} (hm : P.follows .mixedOrders = true) (hback : backB ops = true) (hsz : ∀ L a w, I L a w → L.size = ops.size)
    (hstep : ∀ L a w i, I L a w → i < ops.size → L.getD i true = false → (∀ o, ops[i]? = some o → ∀ e ∈ o.after, Region.binds .any e = true → L.getD e.on false = true) → wpOp P ops Q i (I (L.setIfInBounds i true)) a w)
    (hend : ∀ L a w, I L a w → (∀ i, i < ops.size → L.getD i false = true) → Q .normal a w) (h0 : I (Array.replicate ops.size false) a w.drew) : (Code.region id ops true).wp P Q a w :=
  wp_region_any hm (inv_any hback hsz hstep hend _ _ _ _ (todo_none _) h0)
end

/-- An operation that no guard holds back. -/
theorem wpOp_now {P : Program} {ops : Array Oper} {Q : Exit → Act → World → Prop} {i : Nat} {o : Oper} {K : Act → World → Prop} {a : Act} {w : World} (ho : ops[i]? = some o) (hg : o.guard = none)
    (h : ∀ K', Hid (∀ a w, K a w → K' a w) → Oper.wp P o a w K' Q) : wpOp P ops Q i K a w :=
  wpOp_step ho (fun K' hK => by rw [if_pos (by unfold Region.wanted; rw [hg])]; exact h K' (Lib.hid hK))
theorem edge_of {md : Region.Mode} {ops : Array Oper} {L : Array Bool} {i : Nat} (ha : ∀ o, ops[i]? = some o → ∀ e ∈ o.after, Region.binds md e = true → L.getD e.on false = true) {o : Oper} (ho : ops[i]? = some o) (j : Nat)
    (hj : o.after.any (fun e => Region.binds md e && e.on == j) = true) : L.getD j false = true := by
  obtain ⟨e, he, hb⟩ := Array.any_eq_true'.1 hj
  simp only [Bool.and_eq_true, beq_iff_eq] at hb
  have := ha o ho e he hb.1
  rwa [hb.2] at this
theorem not_listed {L : Array Bool} {i : Nat} (h : L.getD i true = false) : ¬ L.getD i false = true := by
  intro h2
  rw [Array.getD_eq_getD_getElem?] at h h2
  cases hx : L[i]? with
  | none => rw [hx] at h; cases h
  | some b => rw [hx] at h h2; simp at h h2; rw [h] at h2; cases h2
/-- A frame under a letter, with what is known of it. -/
theorem wp_abs {P : Program} {c : Code} {Q : Exit → Act → World → Prop} {a : Act} {w : World} (R : Act → Prop) (h : R a) (k : ∀ a, R a → c.wp P Q a w) : c.wp P Q a w := k a h

/-- But for these slots a frame is as it was. -/
def Fr (D : List Nat) (a0 a : Act) : Prop := a.defers = a0.defers ∧ a.tmps.size = a0.tmps.size ∧ ∀ s, s ∉ D → a.tmps.getD s undef = a0.tmps.getD s undef
theorem Fr.same (D : List Nat) (a : Act) : Fr D a a := ⟨rfl, rfl, fun _ _ => rfl⟩
theorem put_get {a : Act} {d : Nat} (h : d < a.tmps.size) (v : Value) (s : Nat) : (a.put (some d) v).tmps.getD s undef = if s = d then v else a.tmps.getD s undef := by
  show (a.tmps.setIfInBounds d v).getD s undef = _
  rw [getD_set]
  simp [h]
theorem put_other {a : Act} {d s : Nat} (h : s ≠ d) (v : Value) : (a.put (some d) v).tmps.getD s undef = a.tmps.getD s undef := by
  show (a.tmps.setIfInBounds d v).getD s undef = _
  rw [getD_set, if_neg (fun e => h e.1)]
theorem put_same {a : Act} {d : Nat} (h : d < a.tmps.size) (v : Value) : (a.put (some d) v).tmps.getD d undef = v := by rw [put_get h, if_pos rfl]
theorem get_other {L : Array Bool} {i j : Nat} (h : j ≠ i) : (L.setIfInBounds i true).getD j false = L.getD j false := by rw [getD_set, if_neg (fun e => h e.1)]
theorem Fr.put {D : List Nat} {a0 a : Act} {d : Nat} (h : Fr D a0 a) (hd : d ∈ D) (v : Value) : Fr D a0 (a.put (some d) v) := by
  refine ⟨h.1, by show (a.tmps.setIfInBounds d v).size = _; rw [Array.size_setIfInBounds]; exact h.2.1, fun s hs => ?_⟩
  rw [put_other (fun e => hs (by rw [e]; exact hd))]
  exact h.2.2 s hs
/-- The slots of a list set anew. -/
def sets (f : Nat → Value) : List Nat → Array Value → Array Value
  | [], t => t
  | d :: r, t => sets f r (t.setIfInBounds d (f d))
theorem sets_size (f : Nat → Value) : ∀ (D : List Nat) (t : Array Value), (sets f D t).size = t.size
  | [], _ => rfl
  | d :: r, t => by rw [sets, sets_size f r, Array.size_setIfInBounds]
theorem sets_get (f : Nat → Value) : ∀ (D : List Nat) (t : Array Value) (s : Nat), s < t.size → (sets f D t).getD s undef = if s ∈ D then f s else t.getD s undef
  | [], t, s, _ => by simp [sets]
  | d :: r, t, s, hs => by
    rw [sets, sets_get f r _ s (by rw [Array.size_setIfInBounds]; exact hs), getD_set]
    by_cases h1 : s ∈ r
    · simp [h1]
    · by_cases h2 : s = d
      · subst h2; simp [h1, hs]
      · simp [h1, h2]
theorem Fr.all {D : List Nat} {a0 a : Act} (h : Fr D a0 a) : a = ⟨sets (fun s => a.tmps.getD s undef) D a0.tmps, a0.defers⟩ := by
  obtain ⟨h1, h2, h3⟩ := h
  have : a.tmps = sets (fun s => a.tmps.getD s undef) D a0.tmps := by
    refine Array.ext (by rw [sets_size, h2]) fun i hi hj => ?_
    have hk : i < a0.tmps.size := by omega
    have e1 := sets_get (fun s => a.tmps.getD s undef) D a0.tmps i hk
    rw [Array.getD_eq_getD_getElem?, Array.getElem?_eq_getElem hj] at e1
    simp only [Option.getD_some] at e1
    rw [e1]
    by_cases hd : i ∈ D
    · rw [if_pos hd, Array.getD_eq_getD_getElem?, Array.getElem?_eq_getElem hi]; rfl
    · rw [if_neg hd, ← h3 i hd, Array.getD_eq_getD_getElem?, Array.getElem?_eq_getElem hi]; rfl
  cases a
  simp only at this h1
  rw [← this, h1]

/-- A block that the region makes: the operation that makes it, its slot, the operation that writes it, what it holds ahead of that and behind. -/
structure Blk where
  op : Nat
  slot : Nat
  st : Nat
  zs : List Value
  cs : List Value
/-- A value that the region works out: the operation, its slot, the value. -/
structure Vl where
  op : Nat
  slot : Nat
  v : Value
/-- How it stands when these are listed. -/
structure Mid (n : Nat) (D : List Nat) (V : List Vl) (B : List Blk) (a0 : Act) (w0 : World) (L : Array Bool) (a : Act) (w : World) : Prop where
  size : L.size = n
  fr : Fr D a0 a
  bel : Below w0.heap.size w0 w
  vals : ∀ x ∈ V, L.getD x.op false = true → a.tmps.getD x.slot undef = x.v
  blks : ∀ b ∈ B, L.getD b.op false = true → ∃ g, a.tmps.getD b.slot undef = .pointer (some ⟨g, 0, none⟩) ∧ w0.heap.size ≤ g ∧ Box g (if L.getD b.st false = true then b.cs else b.zs) w
  far : ∀ b ∈ B, ∀ c ∈ B, b.op ≠ c.op → L.getD b.op false = true → L.getD c.op false = true → a.tmps.getD b.slot undef ≠ a.tmps.getD c.slot undef
  late : ∀ b ∈ B, L.getD b.st false = true → L.getD b.op false = true
/-- The plan is in order: each operation and each slot once. -/
def planB (n m : Nat) (D : List Nat) (V : List Vl) (B : List Blk) : Bool :=
  (V.all fun x => decide (x.op < n ∧ x.slot < m ∧ x.slot ∈ D)) && (B.all fun b => decide (b.op < n ∧ b.st < n ∧ b.slot < m ∧ b.slot ∈ D)) &&
  decide ((V.map (·.op) ++ (B.map (·.op) ++ B.map (·.st))).Nodup) && decide ((V.map (·.slot) ++ B.map (·.slot)).Nodup)
structure Plan (n m : Nat) (D : List Nat) (V : List Vl) (B : List Blk) : Prop where
  v : ∀ x ∈ V, x.op < n ∧ x.slot < m ∧ x.slot ∈ D
  b : ∀ b ∈ B, b.op < n ∧ b.st < n ∧ b.slot < m ∧ b.slot ∈ D
  vv : ∀ x ∈ V, ∀ y ∈ V, (x.op = y.op → x = y) ∧ (x.slot = y.slot → x = y)
  vb : ∀ x ∈ V, ∀ b ∈ B, x.op ≠ b.op ∧ x.op ≠ b.st ∧ x.slot ≠ b.slot
  bb : ∀ b ∈ B, ∀ c ∈ B, (b.op = c.op → b = c) ∧ (b.slot = c.slot → b = c) ∧ (b.st = c.st → b = c) ∧ b.op ≠ c.st
section
variable {n m : Nat} {D : List Nat} {V : List Vl} {B : List Blk} {a0 : Act} {w0 : World} {L : Array Bool} {a : Act} {w : World}
theorem Mid.begin (n : Nat) (D : List Nat) (V : List Vl) (B : List Blk) (a : Act) {w0 w : World} (h : Below w0.heap.size w0 w) : Mid n D V B a w0 (Array.replicate n false) a w := by
  have no : ∀ i, (Array.replicate n false).getD i false = true → False := by
    intro i h
    rw [Array.getD_eq_getD_getElem?, Array.getElem?_replicate] at h
    split at h <;> cases h
  exact ⟨by simp, .same _ _, h, fun x _ h => (no _ h).elim, fun b _ h => (no _ h).elim, fun b _ c _ _ h => (no _ h).elim, fun b _ h => (no _ h).elim⟩
theorem listed (L : Array Bool) {i : Nat} (hi : i < L.size) (j : Nat) : (L.setIfInBounds i true).getD j false = true ↔ j = i ∨ L.getD j false = true := by
  rw [getD_set]
  by_cases h : j = i
  · simp [h, hi]
  · simp [h]
/-- A value has come. -/
theorem Mid.val (h : Mid n D V B a0 w0 L a w) (hP : Plan n a0.tmps.size D V B) (x : Vl) (hx : x ∈ V) {w' : World} (hw : Below w.heap.size w w') : Mid n D V B a0 w0 (L.setIfInBounds x.op true) (a.put (some x.slot) x.v) w' := by
  have hi : x.op < L.size := by rw [h.size]; exact (hP.v x hx).1
  have hs : x.slot < a.tmps.size := by rw [h.fr.2.1]; exact (hP.v x hx).2.1
  refine ⟨by rw [Array.size_setIfInBounds]; exact h.size, h.fr.put (hP.v x hx).2.2 _, h.bel.trans (hw.mono h.bel.size), fun y hy hl => ?_, fun b hb hl => ?_, fun b hb c hc hne hl1 hl2 => ?_, fun b hb hl => ?_⟩
  · rw [put_get hs]
    by_cases e : y.slot = x.slot
    · rw [if_pos e, (hP.vv y hy x hx).2 e]
    · rw [if_neg e]
      rcases (listed L hi _).1 hl with e2 | hl
      · exact absurd ((hP.vv y hy x hx).1 e2 ▸ rfl) e
      · exact h.vals y hy hl
  · have hv := hP.vb x hx b hb
    rcases (listed L hi _).1 hl with e2 | hl
    · exact absurd e2.symm hv.1
    · obtain ⟨g, e, hg, hbx⟩ := h.blks b hb hl
      refine ⟨g, by rw [put_other hv.2.2.symm]; exact e, hg, ?_⟩
      rw [get_other hv.2.1.symm]
      exact hbx.below hw
  · have hv := hP.vb x hx b hb
    have hu := hP.vb x hx c hc
    rw [put_other hv.2.2.symm, put_other hu.2.2.symm]
    exact h.far b hb c hc hne (((listed L hi _).1 hl1).resolve_left hv.1.symm) (((listed L hi _).1 hl2).resolve_left hu.1.symm)
  · have hv := hP.vb x hx b hb
    exact (listed L hi _).2 (.inr (h.late b hb (((listed L hi _).1 hl).resolve_left hv.2.1.symm)))
/-- A block is made. -/
theorem Mid.made (h : Mid n D V B a0 w0 L a w) (hP : Plan n a0.tmps.size D V B) (b : Blk) (hb : b ∈ B) (hn : L.getD b.op true = false) (T : TypeId) :
    Mid n D V B a0 w0 (L.setIfInBounds b.op true) (a.put (some b.slot) (.pointer (some ⟨w.heap.size, 0, none⟩))) (w.alloc (.cells b.zs.toArray T)) := by
  have hi : b.op < L.size := by rw [h.size]; exact (hP.b b hb).1
  have hs : b.slot < a.tmps.size := by rw [h.fr.2.1]; exact (hP.b b hb).2.2.1
  have hn' : L.getD b.op false = false := by
    rw [Array.getD_eq_getD_getElem?, Array.getElem?_eq_getElem hi] at hn ⊢
    simpa using hn
  have hw := al w (.cells b.zs.toArray T)
  have hsep : ∀ c ∈ B, c.op ≠ b.op → L.getD c.op false = true → (Value.pointer (some ⟨w.heap.size, 0, none⟩)) ≠ a.tmps.getD c.slot undef := by
    intro c hc hne hl e
    obtain ⟨g, e2, hg, hbx⟩ := h.blks c hc hl
    rw [e2] at e
    have h1 := hbx.1
    injection e with e
    injection e with e
    injection e with e
    omega
  refine ⟨by rw [Array.size_setIfInBounds]; exact h.size, h.fr.put (hP.b b hb).2.2.2 _, h.bel.trans (hw.mono h.bel.size), fun y hy hl => ?_, fun c hc hl => ?_, fun c hc d hd hne hl1 hl2 => ?_, fun c hc hl => ?_⟩
  · have hv := hP.vb y hy b hb
    rw [put_other hv.2.2]
    exact h.vals y hy (((listed L hi _).1 hl).resolve_left hv.1)
  · have hq := hP.bb c hc b hb
    have hst : c.st ≠ b.op := (hP.bb b hb c hc).2.2.2.symm
    rw [get_other hst]
    by_cases e : c.op = b.op
    · obtain rfl := hq.1 e
      refine ⟨w.heap.size, put_same hs _, h.bel.size, ?_⟩
      rw [if_neg (fun e => by have := h.late c hc e; rw [hn'] at this; cases this)]
      exact Box.made w c.zs T
    · obtain ⟨g, e2, hg, hbx⟩ := h.blks c hc (((listed L hi _).1 hl).resolve_left e)
      refine ⟨g, ?_, hg, hbx.below hw⟩
      rw [put_other (fun e3 => e (by rw [hq.2.1 e3]))]
      exact e2
  · have hc1 := hP.bb c hc b hb
    have hd1 := hP.bb d hd b hb
    by_cases e1 : c.op = b.op
    · obtain rfl := hc1.1 e1
      have e2 : d.op ≠ c.op := fun e => hne e.symm
      rw [put_same hs, put_other (fun e3 => e2 (by rw [hd1.2.1 e3]))]
      exact hsep d hd e2 (((listed L hi _).1 hl2).resolve_left e2)
    · have hl3 := ((listed L hi _).1 hl1).resolve_left e1
      rw [put_other (fun e3 => e1 (by rw [hc1.2.1 e3]))]
      by_cases e2 : d.op = b.op
      · obtain rfl := hd1.1 e2
        rw [put_same hs]
        exact (hsep c hc e1 hl3).symm
      · rw [put_other (fun e3 => e2 (by rw [hd1.2.1 e3]))]
        exact h.far c hc d hd hne hl3 (((listed L hi _).1 hl2).resolve_left e2)
  · refine (listed L hi _).2 ?_
    exact .inr (h.late c hc (((listed L hi _).1 hl).resolve_left (fun e => (hP.bb b hb c hc).2.2.2 e.symm)))
/-- A block is written. -/
theorem Mid.write (h : Mid n D V B a0 w0 L a w) (hP : Plan n a0.tmps.size D V B) (b : Blk) (hb : b ∈ B) (hl0 : L.getD b.op false = true) {g : Nat} (hg : a.tmps.getD b.slot undef = .pointer (some ⟨g, 0, none⟩)) {w' : World} (hbx : Box g b.cs w') (ht : Turned g w w') :
    Mid n D V B a0 w0 (L.setIfInBounds b.st true) a w' := by
  have hi : b.st < L.size := by rw [h.size]; exact (hP.b b hb).2.1
  obtain ⟨g', e', hg', _⟩ := h.blks b hb hl0
  obtain rfl : g' = g := by
    rw [hg] at e'
    injection e' with e
    injection e with e
    injection e with e
    exact e.symm
  refine ⟨by rw [Array.size_setIfInBounds]; exact h.size, h.fr, ht.2 _ _ hg' h.bel, fun y hy hl => ?_, fun c hc hl => ?_, fun c hc d hd hne hl1 hl2 => ?_, fun c hc hl => ?_⟩
  · exact h.vals y hy (((listed L hi _).1 hl).resolve_left (hP.vb y hy b hb).2.1)
  · have hl := ((listed L hi _).1 hl).resolve_left (hP.bb c hc b hb).2.2.2
    by_cases e : c.op = b.op
    · obtain rfl := (hP.bb c hc b hb).1 e
      refine ⟨g', hg, hg', ?_⟩
      rw [if_pos ((listed L hi _).2 (.inl rfl))]
      exact hbx
    · obtain ⟨k, e2, hk, hbk⟩ := h.blks c hc hl
      refine ⟨k, e2, hk, ?_⟩
      rw [get_other (fun e3 => e (by rw [(hP.bb c hc b hb).2.2.1 e3]))]
      refine ht.1 _ _ (fun e3 => ?_) hbk
      subst e3
      exact h.far c hc b hb e hl hl0 (by rw [e2, hg])
  · exact h.far c hc d hd hne (((listed L hi _).1 hl1).resolve_left (hP.bb c hc b hb).2.2.2) (((listed L hi _).1 hl2).resolve_left (hP.bb d hd b hb).2.2.2)
  · refine (listed L hi _).2 (.inr ?_)
    rcases (listed L hi _).1 hl with e | hl
    · rw [(hP.bb c hc b hb).2.2.1 e]; exact hl0
    · exact h.late c hc hl
end
section
variable {P : Program} {o : Oper} {a : Act} {w : World} {K : Act → World → Prop} {Q : Exit → Act → World → Prop}
/-- One operation: a struct is read; one is written. -/
theorem oper_load (ty : TypeId) (x : Operand) (ho : o.op = .load ty x) (b off : Nat) (hx : a.eval x = .pointer (some ⟨b, off, none⟩)) (cs : List Value) (d : TypeDesc) (hc : w.rangeAt b off cs)
    (hu : P.underlying ty = some d) (hd : d.isRow = true) (hi : (P.info? ty).map (·.size) = some cs.length) (h : K (a.put o.dst (.agg cs.toArray)) w) : Oper.wp P o a w K Q := by
  unfold Oper.wp
  rw [exec_load ty x ho b off hx cs d hc hu hd hi]
  exact h
theorem oper_store (ty : TypeId) (x y : Operand) (ho : o.op = .store ty x y) (b off : Nat) (hx : a.eval x = .pointer (some ⟨b, off, none⟩))
    (cs : List Value) (hy : (a.eval y).cells = cs.toArray) {vs : List Value} (hc : Box b vs w) (hl : off + cs.length ≤ vs.length) (hi : (P.info? ty).map (·.size) = some cs.length) (h1 : ∀ v ∈ cs, v.oneCell' = true)
    (vs' : List Value) (hv : over vs off cs = vs') (h : ∀ w', Box b vs' w' → Turned b w w' → K (a.put o.dst undef) w') : Oper.wp P o a w K Q := by
  have hrun : (storeVar ty ⟨b, off, none⟩ (a.eval y)).run P w = .ok () (w.setCells b off cs) := by
    have ht := hc.therePart hl
    have := run_storeCells_cells (P := P) b off cs 0 w (fun j hj => by simpa using (ht j hj).1) (fun j hj => by simpa using (ht j hj).2) h1
    cases hq : P.info? ty with
    | none => simp [hq] at hi
    | some i =>
      have hs : cs.length = i.size := by simp [hq] at hi; omega
      simp only [Nat.add_zero] at this
      simp [storeVar, sizeOf, typeInfo, hq, hy, hs, this]
  unfold Oper.wp execOp
  simp only [ho, hx, Instr.storeAt, Instr.sureAddr, Sem.run_bind, Sem.run_pure, Result.andThen_ok, hrun]
  exact h _ (hv ▸ hc.over hl) (turned_setCells _ _ _ _)
end
end Go.Proofs.Ytjmmijobdcepmaa.Order
