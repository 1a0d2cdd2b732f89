/-
  OutboxTells: how its loops' heads stand, and what each act makes of them.
-/
import Derived.Test.YtlhepocjcdbhjaaUFew
import Derived.Test.YtlhepocjcdbhjaaUTell
import Derived.Test.YtlhepocjcdbhjaaUMap
namespace Go.Proofs.Ytlhepocjcdbhjaa.Outbox
open Go.ChangeShapes Go.WideShapes Go.ChangeAt Go.RowKit Go.Shelf Go.Lib
open Go.Proofs.Ytlhepocjcdbhjaa.Queue (Box al dr below_trans ret_bool BoolB)

theorem zeroB (w : World) : (zeroValue 4).run Try.prog w = .ok (.bool false) w := by kernel_rfl
theorem zeroI (w : World) : (zeroValue 3).run Try.prog w = .ok (.int .i64 0) w := by kernel_rfl
/-- A block that is a map from numbers to yes and no; to numbers; an iterator over the former. -/
abbrev MapB (W : World) (B n : Nat) (f : Int → Bool) (h : Int → Bool) (m : Nat) : Prop := MapN (Kind.bool Try.underlying4 zeroB) 3 W B n f h m
abbrev MapI (W : World) (B n : Nat) (f : Int → Int) (h : Int → Bool) (m : Nat) : Prop := MapN (Kind.int Try.underlying3 zeroI) 3 W B n f h m
abbrev RangeB (W : World) (B r n : Nat) (f : Int → Bool) (h left : Int → Bool) (cnt : Nat) : Prop := RangeN (Kind.bool Try.underlying4 zeroB) 3 W B r n f h left cnt
theorem in_key {x : Int} (h : 1 ≤ x ∧ x ≤ 1099511627776) : InI x := by unfold InI; omega

/-- A row of the call's own, where it lies. -/
def Lies (v : Value) (lo hi : Nat) : Prop := ∀ g, v.ownBlock = some g → lo ≤ g ∧ g < hi
theorem OwnU.lies {B : Nat} {v : Value} {l : List Ot} {w : World} (h : OwnU B v l w) : Lies v B w.heap.size := fun g e => World.ownsRow.lt h g e
theorem OwnU.keptN {B : Nat} {v : Value} {l : List Ot} {w w' : World} (h : OwnU B v l w) {row : Option Nat} (hg : w.grownBy w' row) (hne : ∀ r, row = some r → v.ownBlock ≠ some r) : OwnU B v l w' := by
  unfold OwnU at h ⊢
  cases row with
  | none =>
    refine World.ownsRow.kept h hg ?_
    cases e : v.ownBlock with
    | none => exact .inl rfl
    | some g => exact .inr (by simp)
  | some r => exact World.ownsRow.kept h hg (.inr (hne r rfl))
theorem Box.keptN {b : Nat} {vs : List Value} {w w' : World} (h : Box b vs w) {row : Option Nat} (hg : w.grownBy w' row) (hne : some b ≠ row) : Box b vs w' := by
  have hb := hg.block b h.1 hne
  refine ⟨Nat.lt_of_lt_of_le h.1 hg.size, fun j v hj => ⟨(World.cell?_of_block (a := ⟨b, j, none⟩) hb).trans (h.2 j v hj).1, ?_⟩⟩
  have := (h.2 j v hj).2
  unfold World.frozen? at this ⊢
  rw [show w'.heap[(⟨b, j, none⟩ : Addr).block]? = w.heap[(⟨b, j, none⟩ : Addr).block]? from hb]
  exact this

theorem grownBy_set (W : World) (g j : Nat) (u : Value) : W.grownBy (W.setCell ⟨g, j, none⟩ u) (some g) :=
  ⟨rfl, rfl, rfl, by simp, fun k _ hk => heap_setCell_other W ⟨g, j, none⟩ k u (fun e => hk (by simp [e]))⟩
/-- Two cells of another block are turned. -/
theorem MapN.setTwo {e : TypeId} {α : Type} {K : Kind Try.prog e α} {k : TypeId} {W : World} {B n m g : Nat} {f : Int → α} {h : Int → Bool} (hm : MapN K k W B n f h m) (hne : g ≠ B) (u0 u1 : Value) : MapN K k ((W.setCell ⟨g, 0, none⟩ u0).setCell ⟨g, 1, none⟩ u1) B n f h m :=
  (hm.kept (row := some g) (grownBy_set W g 0 u0) (by simp; omega)).kept (row := some g) (grownBy_set _ g 1 u1) (by simp; omega)
/-- At the head of the loop: the outbox, and what the two maps have of it. -/
structure Head (w : World) (k : Nat) (n t : Int) (l : List Ot) (v : Value) (op hp : Int → Bool) (m : Nat) (td : Int → Int) (W : World) : Prop where
  tl : Tl l t n k op hp m td
  box : Box w.heap.size (bcs t v) W
  own : OwnU (w.heap.size + 3) v l W
  opn : MapB W (w.heap.size + 1) (100 * k) op hp m
  tld : ∃ h2 m2, MapI W (w.heap.size + 2) (100 * k) td h2 m2
  bel : Below w.heap.size w W
theorem Head.mono {w : World} {k : Nat} {n t : Int} {l : List Ot} {v : Value} {op hp : Int → Bool} {m : Nat} {td : Int → Int} {W W' : World} (h : Head w k n t l v op hp m td W) (hb : Below W.heap.size W W') : Head w k n t l v op hp m td W' := by
  obtain ⟨h2, m2, h3⟩ := h.tld
  exact ⟨h.tl, h.box.below hb, h.own.below hb, h.opn.below hb, ⟨h2, m2, h3.below hb⟩, below_trans h.bel hb⟩
theorem Head.start (w W : World) (hW : ((w.alloc (.cells #[.int .i64 0, .slice none 0 0] 24)).alloc (.map #[] 0)).alloc (.map #[] 0) = W) :
    Head w 0 0 0 [] (.slice none 0 0) (fun _ => false) (fun _ => false) 0 (fun _ => 0) W := by
  subst hW
  have h1 := Box.made w (bcs 0 (.slice none 0 0)) 24
  have h2 := MapN.made (K := Kind.bool Try.underlying4 zeroB) (k := 3) (w.alloc (.cells #[.int .i64 0, .slice none 0 0] 24))
  have h3 := MapN.made (K := Kind.int Try.underlying3 zeroI) (k := 3) ((w.alloc (.cells #[.int .i64 0, .slice none 0 0] 24)).alloc (.map #[] 0))
  have a1 := al w (.cells #[.int .i64 0, .slice none 0 0] 24)
  have a2 := al (w.alloc (.cells #[.int .i64 0, .slice none 0 0] 24)) (.map #[] 0)
  have a3 := al ((w.alloc (.cells #[.int .i64 0, .slice none 0 0] 24)).alloc (.map #[] 0)) (.map #[] 0)
  simp only [World.size_alloc] at h2 h3
  exact ⟨Tl.start, (h1.below a2).below a3, OwnU.nil _ _, h2.below a3, ⟨_, _, h3⟩, below_trans a1 (below_trans a2 a3)⟩
section
variable {w : World} {k : Nat} {n t : Int} {l : List Ot} {v : Value} {op hp : Int → Bool} {m : Nat} {td : Int → Int} {W : World}
theorem Head.right (h : Head w k n t l v op hp m td W) (hk : k ≤ 30) : ∀ W', Below W.heap.size W W' → Calls Try.prog 11 #[bv t v] W' (BoolB true W') := fun W' hb => by
  have := Right_any t (h.own.row.below hb) (by have := h.tl.few; omega)
  rwa [rightB_t.2 h.tl.right] at this
theorem Head.len (h : Head w k n t l v op hp m td W) (ty : TypeId) : (Builtin.len_ #[50] ty #[.map (some (w.heap.size + 1))]).run Try.prog W = .ok (.int .i64 l.length) W := by
  rw [← h.tl.cnt]
  exact h.opn.len Try.underlying50 ty
theorem Head.look (h : Head w k n t l v op hp m td W) {y : Int} (hy : InI y) : (Instr.lookup 50 (.map (some (w.heap.size + 1))) (.int .i64 y) false).run Try.prog W = .ok (.bool (op y)) W :=
  h.opn.look Try.underlying3 Try.underlying50 hy
/-- An act that changes nothing. -/
theorem Head.stays (h : Head w k n t l v op hp m td W) {b : Int} (hb : 0 ≤ b ∧ b ≤ 19) : Head w (k + 1) (n + b) t l v op hp m td W := by
  obtain ⟨h2, m2, h3⟩ := h.tld
  exact ⟨h.tl.later hb, h.box, h.own, h.opn.mono (by omega), ⟨h2, m2, h3.mono (by omega)⟩, h.bel⟩
/-- What putting tells. -/
theorem Tl.puts (h : Tl l t n k op hp m td) (hk : k < 30) {c o n' : Int} (hc : 1 ≤ c ∧ c ≤ 3) (ho : 1 ≤ o ∧ o ≤ 5) (hn : 0 ≤ n' ∧ n' ≤ 1000) :
    (l.any (ofB c o) = true ∧ putZ l t c o n' = 9) ∨ (find l c o = none ∧ putZ l t c o n' = 0 ∧ putL l t c o n' = Outbox.put l t c o n' ∧ putT l t c o n' = t + 1) := by
  have h1 := h.few
  have h2 := h.last
  have hr := rightB_t.2 h.right
  have e : putZ l t c o n' = if l.any (ofB c o) = true then 9 else 0 := by
    unfold putZ
    rw [if_pos ⟨hr, hc, ⟨ho.1, by omega⟩, ⟨hn.1, by omega⟩⟩]
    split
    · rfl
    · rw [if_neg (by omega)]
  by_cases ha : l.any (ofB c o) = true
  · exact .inl ⟨ha, by rw [e, if_pos ha]⟩
  · have e0 : putZ l t c o n' = 0 := by rw [e, if_neg ha]
    refine .inr ⟨none_of (by simpa using ha), e0, ?_, ?_⟩
    · unfold putL; rw [if_pos e0]
    · unfold putT; rw [if_pos e0]
/-- Something is put: the outbox is stored, the two maps are told. -/
theorem Head.put (h : Head w k n t l v op hp m td W) (hk : k < 30) {c o b : Int} (hc : 1 ≤ c ∧ c ≤ 3) (ho : 1 ≤ o ∧ o ≤ 5) (hb : 0 ≤ b ∧ b ≤ 19) (hf : find l c o = none) {W6 : World} {v' : Value} (hx : Below W.heap.size W W6) (ho6 : OwnU W.heap.size v' (Outbox.put l t c o (n + b)) W6) :
    ∃ W8 W9, (Instr.mapUpdate 50 (.map (some (w.heap.size + 1))) (.int .i64 (t + 1)) (.bool true)).run Try.prog ((W6.setCell ⟨w.heap.size, 0, none⟩ (.int .i64 (t + 1))).setCell ⟨w.heap.size, 1, none⟩ v') = .ok () W8 ∧
      (Instr.mapUpdate 51 (.map (some (w.heap.size + 2))) (.int .i64 (t + 1)) (.int .i64 (n + b - 10))).run Try.prog W8 = .ok () W9 ∧
      ∃ op' hp' m' td', Head w (k + 1) (n + b) (t + 1) (Outbox.put l t c o (n + b)) v' op' hp' m' td' W9 := by
  obtain ⟨h2, m2, h3⟩ := h.tld
  have hl := h.tl.last
  have hr := h.tl.right.2.1
  have ht := h.tl.time
  have hsz := h.tld
  have hs2 : w.heap.size + 2 < W.heap.size := h3.lt
  have hw := h.bel.size
  have hbox6 := h.box.below hx
  have hbox7 : Box w.heap.size (bcs (t + 1) v') ((W6.setCell ⟨w.heap.size, 0, none⟩ (.int .i64 (t + 1))).setCell ⟨w.heap.size, 1, none⟩ v') := box_put (box_put hbox6 0 (.int .i64 (t + 1)) (by simp [bcs])) 1 v' (by simp [bcs])
  have hown7 : OwnU (w.heap.size + 3) v' (Outbox.put l t c o (n + b)) ((W6.setCell ⟨w.heap.size, 0, none⟩ (.int .i64 (t + 1))).setCell ⟨w.heap.size, 1, none⟩ v') := ((ho6.far (by omega) 0 _).far (by omega) 1 _).mono (by omega)
  have hb7 : Below w.heap.size w ((W6.setCell ⟨w.heap.size, 0, none⟩ (.int .i64 (t + 1))).setCell ⟨w.heap.size, 1, none⟩ v') := below_two _ _ (below_trans h.bel hx) (Nat.le_refl _)
  have hopn6 := h.opn.below hx
  have htld6 := h3.below hx
  have hopn7 : MapB ((W6.setCell ⟨w.heap.size, 0, none⟩ (.int .i64 (t + 1))).setCell ⟨w.heap.size, 1, none⟩ v') (w.heap.size + 1) (100 * k) op hp m := hopn6.setTwo (by omega) _ _
  have htld7 : MapI ((W6.setCell ⟨w.heap.size, 0, none⟩ (.int .i64 (t + 1))).setCell ⟨w.heap.size, 1, none⟩ v') (w.heap.size + 2) (100 * k) td h2 m2 := htld6.setTwo (by omega) _ _
  generalize (W6.setCell ⟨w.heap.size, 0, none⟩ (.int .i64 (t + 1))).setCell ⟨w.heap.size, 1, none⟩ v' = W7 at hbox7 hown7 hb7 hopn7 htld7 ⊢
  have hin : InI (t + 1) := in_key (by omega)
  obtain ⟨W8, p1, hopn8, hg8, hz8⟩ := hopn7.put Try.underlying3 Try.underlying50 (by omega) hin (v := true) trivial
  have htld8 := htld7.kept hg8 (by simp)
  obtain ⟨W9, p2, htld9, hg9, hz9⟩ := htld8.put Try.underlying3 Try.underlying51 (by omega) hin (v := n + b - 10) (by show _ ≤ _ ∧ _ ≤ _; omega)
  refine ⟨W8, W9, p1, p2, _, _, _, _, ⟨h.tl.put hk hc ho hf ⟨by omega, by omega, by omega⟩, ?_, ?_, ((hopn8.kept hg9 (by simp)).mono (by omega)), ⟨_, _, htld9.mono (by omega)⟩, ?_⟩⟩
  · exact Box.keptN (Box.keptN hbox7 hg8 (by simp)) hg9 (by simp)
  · refine (hown7.keptN hg8 fun r e e2 => ?_).keptN hg9 fun r e e2 => ?_
    · cases e
      have := (hown7.lies _ e2).1
      omega
    · cases e
      have := (hown7.lies _ e2).1
      omega
  · exact (hb7.grown hg8 hb7.size (fun j hj => by cases hj; omega)).grown hg9 (by have := hb7.size; have := hg8.size; omega) (fun j hj => by cases hj; omega)
/-- What doing tells. -/
theorem Tl.does (h : Tl l t n k op hp m td) (y : Int) : (get l y = none ∧ op y = false ∧ doneZ l t y = 8 ∧ doneL l t y = [] ∧ doneT l t y = 0 ∧ doneO l t y = noT) ∨
    (∃ x, get l y = some x ∧ x.y = y ∧ op y = true ∧ doneZ l t y = 0 ∧ doneL l t y = Outbox.done l y ∧ doneT l t y = t ∧ doneO l t y = x) := by
  have hr := rightB_t.2 h.right
  have hi := h.get_iff y
  rw [← h.opn] at hi
  have e : doneZ l t y = if l.any (keyB y) = true then 0 else 8 := by
    unfold doneZ
    rw [if_pos hr]
  unfold doneL doneT doneO
  cases hg : get l y with
  | none =>
    rw [hg] at hi
    have ha : l.any (keyB y) = false := List.any_eq_false.2 fun x hx hp => (List.find?_eq_none.1 hg x hx) hp
    rw [ha, if_neg (by decide)] at e
    rw [e]
    exact .inl ⟨rfl, hi.symm, rfl, rfl, rfl, rfl⟩
  | some x =>
    rw [hg] at hi
    obtain ⟨hx, hy⟩ := get_some hg
    have ha : l.any (keyB y) = true := List.any_eq_true.2 ⟨x, hx, keyB_t.2 hy⟩
    rw [ha, if_pos rfl] at e
    rw [e]
    exact .inr ⟨x, rfl, hy, hi.symm, rfl, rfl, rfl, rfl⟩
/-- One is done: the outbox is stored, the map is told. -/
theorem Head.done (h : Head w k n t l v op hp m td W) (_hk : k < 30) {y b : Int} (hy : InI y) (hb : 0 ≤ b ∧ b ≤ 19) {x : Ot} (hx0 : get l y = some x) {W6 : World} {v' : Value} (hx : Below W.heap.size W W6) (ho6 : OwnU W.heap.size v' (Outbox.done l y) W6) (ty : TypeId) :
    ∃ W8, (Builtin.delete_ #[50, 3] ty #[.map (some (w.heap.size + 1)), .int .i64 y]).run Try.prog ((W6.setCell ⟨w.heap.size, 0, none⟩ (.int .i64 t)).setCell ⟨w.heap.size, 1, none⟩ v') = .ok (.tuple #[]) W8 ∧
      ∃ op' hp' m', Head w (k + 1) (n + b) t (Outbox.done l y) v' op' hp' m' td W8 := by
  obtain ⟨h2, m2, h3⟩ := h.tld
  have hs2 : w.heap.size + 2 < W.heap.size := h3.lt
  have hw := h.bel.size
  have hbox6 := h.box.below hx
  have hbox7 : Box w.heap.size (bcs t v') ((W6.setCell ⟨w.heap.size, 0, none⟩ (.int .i64 t)).setCell ⟨w.heap.size, 1, none⟩ v') := box_put (box_put hbox6 0 (.int .i64 t) (by simp [bcs])) 1 v' (by simp [bcs])
  have hown7 : OwnU (w.heap.size + 3) v' (Outbox.done l y) ((W6.setCell ⟨w.heap.size, 0, none⟩ (.int .i64 t)).setCell ⟨w.heap.size, 1, none⟩ v') := ((ho6.far (by omega) 0 _).far (by omega) 1 _).mono (by omega)
  have hb7 : Below w.heap.size w ((W6.setCell ⟨w.heap.size, 0, none⟩ (.int .i64 t)).setCell ⟨w.heap.size, 1, none⟩ v') := below_two _ _ (below_trans h.bel hx) (Nat.le_refl _)
  have hopn7 : MapB ((W6.setCell ⟨w.heap.size, 0, none⟩ (.int .i64 t)).setCell ⟨w.heap.size, 1, none⟩ v') (w.heap.size + 1) (100 * k) op hp m := (h.opn.below hx).setTwo (by omega) _ _
  have htld7 : MapI ((W6.setCell ⟨w.heap.size, 0, none⟩ (.int .i64 t)).setCell ⟨w.heap.size, 1, none⟩ v') (w.heap.size + 2) (100 * k) td h2 m2 := (h3.below hx).setTwo (by omega) _ _
  generalize (W6.setCell ⟨w.heap.size, 0, none⟩ (.int .i64 t)).setCell ⟨w.heap.size, 1, none⟩ v' = W7 at hbox7 hown7 hb7 hopn7 htld7 ⊢
  obtain ⟨W8, p1, hopn8, hg8, hz8⟩ := hopn7.drop Try.underlying3 Try.underlying50 hy ty
  refine ⟨W8, p1, _, _, _, ⟨(h.tl.later hb).done hx0, Box.keptN hbox7 hg8 (by simp), hown7.keptN hg8 fun r e e2 => ?_, hopn8.mono (by omega), ⟨_, _, (htld7.kept hg8 (by simp)).mono (by omega)⟩, hb7.grown hg8 hb7.size (fun j hj => by cases hj; omega)⟩⟩
  cases e
  have := (hown7.lies _ e2).1
  omega
end

/-- While it goes through what is told: the maps, and what lies beside them. -/
structure Inv (w : World) (k : Nat) (n t : Int) (v v' u : Value) (l s : List Ot) (bx bs : Nat) (op hp : Int → Bool) (m : Nat) (td : Int → Int) (j : Nat) (W : World) : Prop where
  seen : ∃ h2 m2, MapB W bs j (seenF (s.take j)) h2 m2
  tld : ∃ h2 m2, MapI W (w.heap.size + 2) (100 * k + j) (tdF (s.take j) n td) h2 m2
  opn : MapB W (w.heap.size + 1) (100 * k) op hp m
  box : Box w.heap.size (bcs t v) W
  new : Box bx (bcs t v') W
  row : OwnU (w.heap.size + 3) u s W
  out : OwnU (w.heap.size + 3) v' l W
  lu : Lies u (w.heap.size + 3) bs
  lv : Lies v' (w.heap.size + 3) bs
  bel : Below w.heap.size w W
  lo : w.heap.size + 3 ≤ bx ∧ bx < bs
section
variable {w : World} {k : Nat} {n t : Int} {v v' u : Value} {l s : List Ot} {bx bs : Nat} {op hp : Int → Bool} {m : Nat} {td : Int → Int} {j : Nat} {W : World}
theorem Inv.kept (h : Inv w k n t v v' u l s bx bs op hp m td j W) {W' : World} {row : Option Nat} (hg : W.grownBy W' row) (hr : ∀ r, row = some r → bs < r) : Inv w k n t v v' u l s bx bs op hp m td j W' := by
  obtain ⟨h2, m2, h3⟩ := h.seen
  obtain ⟨h4, m4, h5⟩ := h.tld
  have hlo := h.lo
  have ne : ∀ b, b ≤ bs → some b ≠ row := fun b hb e => by have := hr b e.symm; omega
  refine ⟨⟨h2, m2, h3.kept hg (ne _ (Nat.le_refl _))⟩, ⟨h4, m4, h5.kept hg (ne _ (by omega))⟩, h.opn.kept hg (ne _ (by omega)), Box.keptN h.box hg (ne _ (by omega)), Box.keptN h.new hg (ne _ (by omega)), h.row.keptN hg fun r e e2 => ?_, h.out.keptN hg fun r e e2 => ?_, h.lu, h.lv, h.bel.grown hg h.bel.size fun r e => ?_, hlo⟩
  · have := (h.lu r e2).2; have := hr r e; omega
  · have := (h.lv r e2).2; have := hr r e; omega
  · have := hr r e; omega
theorem Inv.below (h : Inv w k n t v v' u l s bx bs op hp m td j W) {W' : World} (hb : Below W.heap.size W W') : Inv w k n t v v' u l s bx bs op hp m td j W' := h.kept (grown_of_below hb) (fun r e => by cases e)
theorem Inv.isOpen (h : Inv w k n t v v' u l s bx bs op hp m td j W) {y : Int} (hy : InI y) : (Instr.lookup 50 (.map (some (w.heap.size + 1))) (.int .i64 y) false).run Try.prog W = .ok (.bool (op y)) W :=
  h.opn.look Try.underlying3 Try.underlying50 hy
theorem Inv.isSeen (h : Inv w k n t v v' u l s bx bs op hp m td j W) {y : Int} (hy : InI y) : (Instr.lookup 50 (.map (some bs)) (.int .i64 y) false).run Try.prog W = .ok (.bool (seenF (s.take j) y)) W := by
  obtain ⟨h2, m2, h3⟩ := h.seen
  exact h3.look Try.underlying3 Try.underlying50 hy
theorem Inv.wasTold (h : Inv w k n t v v' u l s bx bs op hp m td j W) {y : Int} (hy : InI y) : (Instr.lookup 51 (.map (some (w.heap.size + 2))) (.int .i64 y) false).run Try.prog W = .ok (.int .i64 (tdF (s.take j) n td y)) W := by
  obtain ⟨h2, m2, h3⟩ := h.tld
  exact h3.look Try.underlying3 Try.underlying51 hy
/-- One that was told is noted. -/
theorem Inv.note (h : Inv w k n t v v' u l s bx bs op hp m td j W) (_hk : k ≤ 30) (hj : j < s.length) (hs : s.length ≤ 96) (hy : InI s[j].y) (hn : 0 ≤ n ∧ n ≤ 1000) :
    ∃ W1 W2, (Instr.mapUpdate 50 (.map (some bs)) (.int .i64 s[j].y) (.bool true)).run Try.prog W = .ok () W1 ∧ (Instr.mapUpdate 51 (.map (some (w.heap.size + 2))) (.int .i64 s[j].y) (.int .i64 n)).run Try.prog W1 = .ok () W2 ∧
      W.grownBy W1 (some bs) ∧ Inv w k n t v v' u l s bx bs op hp m td (j + 1) W2 := by
  obtain ⟨h2, m2, h3⟩ := h.seen
  obtain ⟨h4, m4, h5⟩ := h.tld
  have hlo := h.lo
  obtain ⟨W1, p1, q1, g1, z1⟩ := h3.put Try.underlying3 Try.underlying50 (by omega) hy (v := true) trivial
  obtain ⟨W2, p2, q2, g2, z2⟩ := (h5.kept g1 (by simp; omega)).put Try.underlying3 Try.underlying51 (by omega) hy (v := n) (by show _ ≤ _ ∧ _ ≤ _; omega)
  have e1 : (fun z => if z = s[j].y then true else seenF (s.take j) z) = seenF (s.take (j + 1)) := funext fun z => by
    rw [seenF_take s hj]
    by_cases e : z = s[j].y
    · rw [if_pos e, decide_eq_true e]; rfl
    · rw [if_neg e, decide_eq_false e]; rfl
  have e2 : (fun z => if z = s[j].y then n else tdF (s.take j) n td z) = tdF (s.take (j + 1)) n td := funext fun z => (tdF_take s hj n td z).symm
  rw [e1] at q1
  rw [e2] at q2
  refine ⟨W1, W2, p1, p2, g1, ⟨⟨_, _, q1.kept g2 (by simp; omega)⟩, ⟨_, _, q2⟩, (h.opn.kept g1 (by simp; omega)).kept g2 (by simp), Box.keptN (Box.keptN h.box g1 (by simp; omega)) g2 (by simp), Box.keptN (Box.keptN h.new g1 (by simp; omega)) g2 (by simp; omega), (h.row.keptN g1 fun r e e2 => ?_).keptN g2 fun r e e2 => ?_, (h.out.keptN g1 fun r e e2 => ?_).keptN g2 fun r e e2 => ?_, h.lu, h.lv, (h.bel.grown g1 h.bel.size fun r e => ?_).grown g2 (by rw [z1]; exact h.bel.size) fun r e => ?_, hlo⟩⟩
  · cases e; have := (h.lu _ e2).2; omega
  · cases e; have := (h.lu _ e2).1; omega
  · cases e; have := (h.lv _ e2).2; omega
  · cases e; have := (h.lv _ e2).1; omega
  · cases e; omega
  · cases e; omega
/-- All are noted: the outbox is stored. -/
theorem Inv.ends (h : Inv w k n t v v' u (tell l n) (told l n) bx bs op hp m td (told l n).length W) (hk : k < 30) {n0 b : Int} (ht : Tl l t n0 k op hp m td) (hb : 0 ≤ b ∧ b ≤ 19) (hn : n = n0 + b) (hl : (told l n).length ≤ 96) :
    Head w (k + 1) n t (tell l n) v' op hp m (tdF (told l n) n td) ((W.setCell ⟨w.heap.size, 0, none⟩ (.int .i64 t)).setCell ⟨w.heap.size, 1, none⟩ v') := by
  obtain ⟨h4, m4, h5⟩ := h.tld
  rw [List.take_length] at h5
  have hlo := h.lo
  subst hn
  have h1 := ht.time
  refine ⟨(ht.later hb).told (by omega), box_put (box_put h.box 0 (.int .i64 t) (by simp [bcs])) 1 v' (by simp [bcs]), (h.out.far (by omega) 0 _).far (by omega) 1 _, ((h.opn.setTwo (by omega) _ _).mono (by omega)), ⟨_, _, (h5.setTwo (by omega) _ _).mono (by omega)⟩, below_two _ _ h.bel (Nat.le_refl _)⟩
end
/-- It tells: what it hands back lies there, a map is made. -/
theorem Inv.start {w : World} {k : Nat} {n0 t n : Int} {l : List Ot} {v v' u : Value} {op hp : Int → Bool} {m : Nat} {td : Int → Int} {W W5 W7 : World} (h : Head w k n0 t l v op hp m td W) (hb : Below W.heap.size W W5) (h1 : OwnU W.heap.size v' (tell l n) W5) (h2 : OwnU W.heap.size u (told l n) W5)
    (hW : (W5.alloc (.cells #[.int .i64 t, v'] 24)).alloc (.map #[] 0) = W7) : Inv w k n t v v' u (tell l n) (told l n) W5.heap.size (W5.heap.size + 1) op hp m td 0 W7 := by
  subst hW
  obtain ⟨h4, m4, h5⟩ := h.tld
  have hs2 : w.heap.size + 2 < W.heap.size := h5.lt
  have hz := hb.size
  have hbx := Box.made W5 (bcs t v') 24
  have hms := MapN.made (K := Kind.bool Try.underlying4 zeroB) (k := 3) (W5.alloc (.cells #[.int .i64 t, v'] 24))
  simp only [World.size_alloc] at hms
  have ha := two_al W5 (.cells #[.int .i64 t, v'] 24) (.map #[] 0)
  have hba := below_trans hb ha
  refine ⟨⟨_, _, hms⟩, ⟨_, _, h5.below hba⟩, h.opn.below hba, h.box.below hba, hbx.below (al _ _), (h2.below ha).mono (by omega), (h1.below ha).mono (by omega), fun g e => ?_, fun g e => ?_, below_trans h.bel hba, ⟨by omega, by omega⟩⟩
  · have := h2.lies g e; omega
  · have := h1.lies g e; omega
end Go.Proofs.Ytlhepocjcdbhjaa.Outbox
