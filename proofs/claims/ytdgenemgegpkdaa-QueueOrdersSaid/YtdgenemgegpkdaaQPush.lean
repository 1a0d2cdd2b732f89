/-
  The library's heap over a row of waits behind its address: the row's own Push and Pop.
-/
import Derived.Test.YtdgenemgegpkdaaQUp
import Derived.Deep.RegionLaw
import Derived.Deep.AppendLies
import Derived.WalkSmall
namespace Go.Proofs.Ytdgenemgegpkdaa.Queue
open Go.ChangeShapes Go.WideShapes Go.ChangeAt Go.RowKit Go.Shelf Go.Sort

section
variable {P : Program} {md : Region.Mode} {ops : Array Oper} {Q : Exit → Act → World → Prop} {S : World → Prop}
/-- An operation that yields its value is taken first. -/
theorem takeW (i d : Nat) (v : Value) {oi : Oper} {fuel : Nat} {listed : Array Bool} {a : Act} {w : World} (hQ : ∀ c a o v w, Q (.panic c) (Act.put a o v) w → Q (.panic c) a w) (hi : ops[i]? = some oi) (hd : oi.dst = some d) (hs : Region.noSelect ops = true) (hf : Region.free md ops listed i = true) (hr : (Region.ready md ops listed).contains i = true)
    (hw : Region.wanted oi (yielded ops a.tmps) = true) (hy : ∀ w, S w → (execOp a.eval oi).run P w = .ok (.value v) w) (hS : S w)
    (h : wpAnyH P md ops Q S fuel (listed.setIfInBounds i true) (a.put (some d) v) w) : wpAnyH P md ops Q S (fuel + 1) listed a w :=
  wpAnyH_take hi hs hf hr (fun c a w' => hQ c a _ _ w') (.inl ⟨hw, hy⟩) hS (by rw [hd]; exact h)
end
/-- A wait is appended to a row of the call's own. -/
theorem step_append_wait {w : World} {ops : Array Oper} {o : Oper} {a : Act} {K : Act → World → Prop} {Q : Exit → Act → World → Prop} {E : Prop} (hgd : o.guard = none) (d : Nat) (hd : o.dst = some d) (s y : Operand)
    (ho : o.op = .call { callee := .builtin .append, args := #[s, y], argTypes := #[40, 40] })
    (base : Nat) (v : Value) (l : List Wt) (hs : a.eval s = v) (hown : OwnQ base v l w) (u : Value) (n0 : Nat) (hu : u = .slice (some ⟨n0, 0, none⟩) 1 1) (x : Wt) (hy : a.eval y = u ∧ ∀ j c, [Value.int .i64 x.c, .int .i64 x.s, .int .i64 x.o][j]? = some c → w.cell? ⟨n0, j, none⟩ = some c) (hl : l.length ≤ 1000) (hbase : base ≤ w.heap.size)
    (h : ∀ v' w', OwnQ base v' (l ++ [x]) w' → w.grownBy w' v.ownBlock → K (a.put (some d) v') w') : if Region.wanted o (yielded ops a.tmps) = true then Oper.wp Try.prog o a w K Q else E := by
  obtain ⟨i0, hi, hz0, hz1, hz2⟩ := info_parts infoQ
  have hw : Region.wanted o (yielded ops a.tmps) = true := by simp [Region.wanted, hgd]
  rw [if_pos hw]
  rw [← hd] at h
  subst hu
  refine wp_append_own w s y 40 ho base 24 i0 (.agg #[.int .i64 0, .int .i64 0, .int .i64 0]) 3 24 Try.underlying40 hi hz0 hz1 hz2 rfl (by decide) v l.length (qcells l) hs hown ⟨n0, 0, none⟩ 1 1 [.int .i64 x.c, .int .i64 x.s, .int .i64 x.o] hy.1 rfl (fun j c hc => by rw [addr_add, Nat.zero_add]; exact hy.2 j c hc) (fun c hc => by simp at hc; rcases hc with rfl | rfl | rfl <;> rfl) (by unfold maxLen; omega) (by omega) hbase ?_
  intro v' w1 hown' hgrow _
  refine h v' w1 ?_ hgrow
  unfold OwnQ
  rw [qcells_append, List.length_append]
  exact hown'
theorem HS.own_ne {B hb : Nat} {v : Value} {l : List Wt} {w : World} (h : HS B hb v l w) : v.ownBlock ≠ some hb := by
  intro e
  obtain ⟨c, fz, hc⟩ := Go.Lib.ownsRow_kind h.2.1 hb e
  rw [h.1] at hc
  cases hc
theorem HS.store {B hb : Nat} {v v' : Value} {l' : List Wt} {w : World} (h : w.heap[hb]? = some (.cells #[v] 40 (0, 0))) (hB : B ≤ hb) (ho : OwnQ B v' l' w) : HS B hb v' l' (w.setCell ⟨hb, 0, none⟩ v') := by
  have hne : v'.ownBlock ≠ some hb := by
    intro e
    obtain ⟨c, fz, hc⟩ := Go.Lib.ownsRow_kind ho hb e
    rw [h] at hc
    cases hc
  refine ⟨?_, ownsRow_setCell_other ho hne v', hB⟩
  rw [heap_setCell_same w hb 0 #[v] 40 v' h]
  rfl
set_option maxHeartbeats 2000000 in
set_option maxRecDepth 100000 in
theorem PushM_any {B hb : Nat} {v : Value} {l : List Wt} {w : World} (h : HS B hb v l w) (hl : l.length ≤ 1000) (x : Wt) :
    Calls Try.prog 75 #[.pointer (some ⟨hb, 0, none⟩), .iface 24 (wv x)] w fun e w' => e = .returned (.tuple #[]) ∧ ∃ v', HS B hb v' (l ++ [x]) w' ∧ Below B w w' := by
  have hbe : Below w.heap.size w (w.alloc (.cells #[.int .i64 x.c, .int .i64 x.s, .int .i64 x.o] 24)).drew := below_trans (al w _) (dr _)
  have HO1 := Lib.hid ((h.below hbe).2.1)
  have h1 := h.below hbe
  have HBL : Hid (B ≤ (w.alloc (.cells #[.int .i64 x.c, .int .i64 x.s, .int .i64 x.o] 24)).drew.heap.size) := Lib.hid (by have := h1.lt; have := h1.2.2; omega)
  have HFIN : Hid (∀ v' w', OwnQ B v' (l ++ [x]) w' → (w.alloc (.cells #[.int .i64 x.c, .int .i64 x.s, .int .i64 x.o] 24)).drew.grownBy w' v.ownBlock → (w'.cell? ⟨hb, 0, none⟩ = some v ∧ w'.frozen? ⟨hb, 0, none⟩ = false) ∧ HS B hb v' (l ++ [x]) (w'.setCell ⟨hb, 0, none⟩ v') ∧ Below B w (w'.setCell ⟨hb, 0, none⟩ v')) := Lib.hid (fun v' w' ho hg => by
    have hh : w'.heap[hb]? = some (.cells #[v] 40 (0, 0)) := (hg.block hb h1.lt (fun e => h1.own_ne e.symm)).trans h1.1
    refine ⟨⟨?_, by simp [World.frozen?, hh]⟩, HS.store hh h.2.2 ho, ?_⟩
    · rw [cell_of_row w' hb 0 #[v] 40 (0, 0) hh]
      rfl
    · have hb1 : Below B w (w.alloc (.cells #[.int .i64 x.c, .int .i64 x.s, .int .i64 x.o] 24)).drew := hbe.mono (by have := h.lt; have := h.2.2; omega)
      exact (hb1.grown hg HBL.out (fun j hj => (h1.2.1.lt j hj).1)).setCell (p := ⟨hb, 0, none⟩) h.2.2 v')
  have HN1 : Hid (Value.slice (some ⟨w.heap.size, 0, none⟩) 1 1 = .slice (some ⟨w.heap.size, 0, none⟩) 1 1 ∧ ∀ j c, [Value.int .i64 x.c, .int .i64 x.s, .int .i64 x.o][j]? = some c → (w.alloc (.cells #[.int .i64 x.c, .int .i64 x.s, .int .i64 x.o] 24)).drew.cell? ⟨w.heap.size, j, none⟩ = some c) := Lib.hid ⟨rfl, fun j c hc => (((Box.made w [.int .i64 x.c, .int .i64 x.s, .int .i64 x.o] 24).below (dr _)).2 j c hc).1⟩
  obtain ⟨c0, f0⟩ := h.cell
  have hlt := h.lt
  obtain ⟨a, cap, rfl⟩ := h.2.1.row.slice
  clear h h1 hbe
  unfold wv
  go_enter Try.func75, Try.ntmps75
  have hta : ∀ W, Sem.run Try.prog (Instr.typeAssert (.iface 24 (.agg #[.int .i64 x.c, .int .i64 x.s, .int .i64 x.o])) 20 24 false) W = .ok (.agg #[.int .i64 x.c, .int .i64 x.s, .int .i64 x.o]) W := fun _ => by kernel_rfl
  refine wp_region_noPanic ?_
  refine wp_region_held_drew (S := fun W' => True) (by kernel_rfl) trivial (fun hHeld => ?_)
  refine takeW 0 4 (.pointer (some ⟨hb, 0, none⟩)) (fun _ _ _ _ _ h => h) rfl rfl (by kernel_rfl) (by kernel_rfl) (by kernel_rfl) (by rfl) (fun W' hSw => by go_simp) trivial ?_
  try simp only [Act.put, List.setIfInBounds_toArray, List.set_cons_zero, List.set_cons_succ]
  refine takeW 1 5 (.pointer (some ⟨hb, 0, none⟩)) (fun _ _ _ _ _ h => h) rfl rfl (by kernel_rfl) (by kernel_rfl) (by kernel_rfl) (by rfl) (fun W' hSw => by go_simp) trivial ?_
  try simp only [Act.put, List.setIfInBounds_toArray, List.set_cons_zero, List.set_cons_succ]
  refine takeW 2 6 (.pointer (some ⟨hb, 0, none⟩)) (fun _ _ _ _ _ h => h) rfl rfl (by kernel_rfl) (by kernel_rfl) (by kernel_rfl) (by rfl) (fun W' hSw => by go_simp) trivial ?_
  try simp only [Act.put, List.setIfInBounds_toArray, List.set_cons_zero, List.set_cons_succ]
  refine takeW 4 8 (.iface 24 (.agg #[.int .i64 x.c, .int .i64 x.s, .int .i64 x.o])) (fun _ _ _ _ _ h => h) rfl rfl (by kernel_rfl) (by kernel_rfl) (by kernel_rfl) (by rfl) (fun W' hSw => by go_simp) trivial ?_
  try simp only [Act.put, List.setIfInBounds_toArray, List.set_cons_zero, List.set_cons_succ]
  refine takeW 5 9 (.agg #[.int .i64 x.c, .int .i64 x.s, .int .i64 x.o]) (fun _ _ _ _ _ h => h) rfl rfl (by kernel_rfl) (by kernel_rfl) (by kernel_rfl) (by rfl) (fun W' hSw => by go_simp) trivial ?_
  try simp only [Act.put, List.setIfInBounds_toArray, List.set_cons_zero, List.set_cons_succ]
  refine wpAnyH_ready (rs := [3, 6]) (by kernel_rfl) (by simp) (AllReadyH.cons rfl (fun K hK => ?_) (AllReadyH.cons rfl (fun K hK => ?_) AllReadyH.nil))
  · -- the slice is read ahead of the new block
    go_simp
    refine hK.out _ _ trivial (fun hHeld => ?_)
    clear hK
    try simp only [Act.put, List.setIfInBounds_toArray, List.set_cons_zero, List.set_cons_succ]
    refine wpAnyH_ready (rs := [6]) (by kernel_rfl) (by simp) (AllReadyH.cons rfl (fun K hK => ?_) AllReadyH.nil)
    go_simp
    refine hK.out _ _ trivial (fun hHeld => ?_)
    clear hK
    try simp only [Act.put, List.setIfInBounds_toArray, List.set_cons_zero, List.set_cons_succ]
    refine wpAnyH_ready (rs := [7]) (by kernel_rfl) (by simp) (AllReadyH.cons rfl (fun K hK => ?_) AllReadyH.nil)
    refine step_append_wait rfl 11 rfl _ _ rfl B _ l rfl HO1.out (.slice (some ⟨w.heap.size, 0, none⟩) 1 1) w.heap.size rfl x HN1.out hl HBL.out (fun v' w' ho' hg' => ?_)
    obtain ⟨a', n', c', rfl⟩ : ∃ a n c, v' = .slice a n c := by obtain ⟨a', c', e⟩ := ho'.row.slice; exact ⟨a', _, c', e⟩
    have HF := Lib.hid (HFIN.out _ w' ho' hg')
    obtain ⟨k0, g0⟩ := HF.out.1
    clear ho' hg'
    refine hK.out _ _ trivial (fun hHeld => ?_)
    clear hK
    try simp only [Act.put, List.setIfInBounds_toArray, List.set_cons_zero, List.set_cons_succ]
    refine takeW 8 12 (.pointer (some ⟨hb, 0, none⟩)) (fun _ _ _ _ _ h => h) rfl rfl (by kernel_rfl) (by kernel_rfl) (by kernel_rfl) (by rfl) (fun W' hSw => by go_simp) trivial ?_
    try simp only [Act.put, List.setIfInBounds_toArray, List.set_cons_zero, List.set_cons_succ]
    refine wpAnyH_ready (rs := [9]) (by kernel_rfl) (by simp) (AllReadyH.cons rfl (fun K hK => ?_) AllReadyH.nil)
    go_simp
    refine hK.out _ _ trivial (fun hHeld => ?_)
    clear hK
    try simp only [Act.put, List.setIfInBounds_toArray, List.set_cons_zero, List.set_cons_succ]
    refine wpAnyH_done (by kernel_rfl) ?_ _
    refine NoPanic.normal ?_
    go_end0
    exact ⟨rfl, _, HF.out.2.1, HF.out.2.2⟩
  · -- the slice is read behind it
    go_simp
    refine hK.out _ _ trivial (fun hHeld => ?_)
    clear hK
    try simp only [Act.put, List.setIfInBounds_toArray, List.set_cons_zero, List.set_cons_succ]
    refine wpAnyH_ready (rs := [3]) (by kernel_rfl) (by simp) (AllReadyH.cons rfl (fun K hK => ?_) AllReadyH.nil)
    go_simp
    refine hK.out _ _ trivial (fun hHeld => ?_)
    clear hK
    try simp only [Act.put, List.setIfInBounds_toArray, List.set_cons_zero, List.set_cons_succ]
    refine wpAnyH_ready (rs := [7]) (by kernel_rfl) (by simp) (AllReadyH.cons rfl (fun K hK => ?_) AllReadyH.nil)
    refine step_append_wait rfl 11 rfl _ _ rfl B _ l rfl HO1.out (.slice (some ⟨w.heap.size, 0, none⟩) 1 1) w.heap.size rfl x HN1.out hl HBL.out (fun v' w' ho' hg' => ?_)
    obtain ⟨a', n', c', rfl⟩ : ∃ a n c, v' = .slice a n c := by obtain ⟨a', c', e⟩ := ho'.row.slice; exact ⟨a', _, c', e⟩
    have HF := Lib.hid (HFIN.out _ w' ho' hg')
    obtain ⟨k0, g0⟩ := HF.out.1
    clear ho' hg'
    refine hK.out _ _ trivial (fun hHeld => ?_)
    clear hK
    try simp only [Act.put, List.setIfInBounds_toArray, List.set_cons_zero, List.set_cons_succ]
    refine takeW 8 12 (.pointer (some ⟨hb, 0, none⟩)) (fun _ _ _ _ _ h => h) rfl rfl (by kernel_rfl) (by kernel_rfl) (by kernel_rfl) (by rfl) (fun W' hSw => by go_simp) trivial ?_
    try simp only [Act.put, List.setIfInBounds_toArray, List.set_cons_zero, List.set_cons_succ]
    refine wpAnyH_ready (rs := [9]) (by kernel_rfl) (by simp) (AllReadyH.cons rfl (fun K hK => ?_) AllReadyH.nil)
    go_simp
    refine hK.out _ _ trivial (fun hHeld => ?_)
    clear hK
    try simp only [Act.put, List.setIfInBounds_toArray, List.set_cons_zero, List.set_cons_succ]
    refine wpAnyH_done (by kernel_rfl) ?_ _
    refine NoPanic.normal ?_
    go_end0
    exact ⟨rfl, _, HF.out.2.1, HF.out.2.2⟩
set_option maxHeartbeats 2000000 in
set_option maxRecDepth 100000 in
theorem PopM_any {B hb : Nat} {v : Value} {l : List Wt} {w : World} (h : HS B hb v l w) (h0 : 0 < l.length) (hl : l.length ≤ 1000) :
    Calls Try.prog 74 #[.pointer (some ⟨hb, 0, none⟩)] w fun e w' => e = .returned (.iface 24 (wv l.toArray[l.length - 1]!)) ∧ ∃ v', HS B hb v' l.dropLast w' ∧ Below B w w' := by
  obtain ⟨c0, f0⟩ := h.cell
  have hlt := h.lt
  obtain ⟨g, cap, rfl, hBg, hgw, ⟨x0, x1, x2⟩, hfr⟩ := h.2.1.at (i := l.length - 1) (by omega)
  obtain ⟨_, _, e, hlc, hcap, _, _, _, _⟩ := h.2.1.row.at (q := l.length - 1) (by omega)
  rw [arr_get (l := l) (k := l.length - 1) (by omega)]
  have hdl : l = l.dropLast ++ [l[l.length - 1]] := by
    have hne : l ≠ [] := by intro e; subst e; simp at h0
    have := List.dropLast_concat_getLast hne
    rw [List.getLast_eq_getElem] at this
    exact this.symm
  have HPOP : Hid (HS B hb (.slice (some ⟨g, 0, none⟩) (l.length - 1) cap) l.dropLast (w.setCell ⟨hb, 0, none⟩ (.slice (some ⟨g, 0, none⟩) (l.length - 1) cap))) := Lib.hid (HS.store h.1 h.2.2 (by
    have ho := h.2.1
    unfold OwnQ at ho ⊢
    have e1 : l.dropLast.length = l.length - 1 := List.length_dropLast
    obtain ⟨q, e3⟩ : ∃ q, qcells l = qcells l.dropLast ++ q := ⟨qcells [l[l.length - 1]], by rw [← qcells_append, ← hdl]⟩
    rw [e3] at ho
    rw [e1]
    have hq : (qcells l.dropLast).length = (l.length - 1) * 3 := by rw [qcells_len, e1]
    generalize qcells l.dropLast = qd at ho hq ⊢
    obtain ⟨k, hk⟩ : ∃ k, l.length = k + 1 := ⟨l.length - 1, by omega⟩
    rw [hk] at ho hq ⊢
    exact ownsRow_pop hq ho))
  have HPB := Lib.hid ((Below.refl B w).setCell (p := ⟨hb, 0, none⟩) h.2.2 (.slice (some ⟨g, 0, none⟩) (l.length - 1) cap))
  have hBs : B ≤ w.heap.size := by have := h.2.2; omega
  clear h e hfr hdl
  have hle : (1 : Int) ≤ (l.length : Int) := by omega
  have hin : ((l.length - 1 : Nat) : Int) = (l.length : Int) - 1 := by omega
  generalize l[l.length - 1] = x at *
  generalize hm : l.length - 1 = m at *
  unfold wv
  go_enter Try.func74, Try.ntmps74
  go_wp2
  generalize hWf : w.setCell ⟨hb, 0, none⟩ (.slice (some ⟨g, 0, none⟩) m cap) = Wf at HPOP HPB ⊢
  clear hWf
  go_ret
  exact ⟨rfl, _, HPOP.out.below (al _ _), HPB.out.trans ((al Wf _).mono (by have := HPB.out.size; omega))⟩
end Go.Proofs.Ytdgenemgegpkdaa.Queue
