/-
  Contract of package outbox's Tell.
-/
import Derived.Test.YtlhepocjcdbhjaaUDue
import Derived.Maps.AppendAt
import Derived.Sort.QuietIn
namespace Go.Proofs.Ytlhepocjcdbhjaa.Outbox
open Go.ChangeShapes Go.WideShapes Go.ChangeAt Go.RowKit Go.Shelf Go.Lib
open Go.Proofs.Ytlhepocjcdbhjaa.Queue (Box al dr below_trans ret_bool BoolB)
attribute [local go_sem] Oper.semAt_some

/-- The rows, those of these places told again at nx. -/
def latF (l : List Ot) (nx : Int) (pre : List (Fin l.length)) : List Ot := List.ofFn (fun i : Fin l.length => if i ∈ pre then { l[i] with d := nx } else l[i])
theorem latF_len (l : List Ot) (nx : Int) (pre : List (Fin l.length)) : (latF l nx pre).length = l.length := List.length_ofFn
theorem latF_at (l : List Ot) (nx : Int) (pre : List (Fin l.length)) (i : Nat) (h : i < l.length) : (latF l nx pre)[i]'(by rw [latF_len]; exact h) = if (⟨i, h⟩ : Fin l.length) ∈ pre then { l[i] with d := nx } else l[i] := by
  unfold latF
  rw [List.getElem_ofFn]
  rfl
theorem latF_nil (l : List Ot) (nx : Int) : latF l nx [] = l := by
  refine List.ext_getElem (latF_len _ _ _) fun i h1 h2 => ?_
  rw [latF_at l nx [] i h2, if_neg (by simp)]
theorem latF_snoc (l : List Ot) (nx : Int) (pre : List (Fin l.length)) (i : Fin l.length) : latF l nx (pre ++ [i]) = (latF l nx pre).set i.1 { ((latF l nx pre)[i.1]'(by rw [latF_len]; exact i.2)) with d := nx } := by
  refine List.ext_getElem (by rw [List.length_set, latF_len, latF_len]) fun j h1 h2 => ?_
  have hj : j < l.length := by rwa [latF_len] at h1
  rw [latF_at l nx (pre ++ [i]) j hj, List.getElem_set]
  by_cases e : i.1 = j
  · subst e
    rw [if_pos (by simp), if_pos rfl, latF_at l nx pre i.1 i.2]
    split <;> rfl
  · rw [if_neg e, latF_at l nx pre j hj]
    have hm : (⟨j, hj⟩ : Fin l.length) ∈ pre ++ [i] ↔ (⟨j, hj⟩ : Fin l.length) ∈ pre := by
      rw [List.mem_append, List.mem_singleton]
      constructor
      · rintro (h | h)
        · exact h
        · exact absurd (by rw [← h]) e
      · exact .inl
    by_cases hp : (⟨j, hj⟩ : Fin l.length) ∈ pre
    · rw [if_pos (hm.2 hp), if_pos hp]
    · rw [if_neg (fun h => hp (hm.1 h)), if_neg hp]
theorem latF_due (l : List Ot) (t : Int) : latF l (next t) (dueF l t) = tell l t := by
  refine List.ext_getElem (by unfold tell; rw [latF_len, List.length_map]) fun j h1 h2 => ?_
  have hj : j < l.length := by rwa [latF_len] at h1
  have e : (tell l t)[j] = later t l[j] := by simp [tell]
  rw [latF_at l _ _ j hj, e]
  have hm : (⟨j, hj⟩ : Fin l.length) ∈ dueF l t ↔ l[j].d ≤ t := by
    unfold dueF
    rw [List.mem_filter]
    constructor
    · rintro ⟨_, h⟩; exact of_decide_eq_true h
    · intro h; exact ⟨List.mem_finRange _, decide_eq_true h⟩
  unfold later
  by_cases hp : l[j].d ≤ t
  · rw [if_pos (hm.2 hp), if_pos hp]
  · rw [if_neg (fun h => hp (hm.1 h)), if_neg hp]
theorem ucells_d : ∀ (l : List Ot) (i : Nat) (n : Int) (h : i < l.length), ucells (l.set i { l[i] with d := n }) = (ucells l).set (i * 4 + 3) (.int .i64 n)
  | x :: r, 0, n, _ => rfl
  | x :: r, i + 1, n, h => by
    have := ucells_d r i n (by simpa using h)
    rw [show (i + 1) * 4 + 3 = i * 4 + 3 + 1 + 1 + 1 + 1 by omega]
    simp only [List.set_cons_succ, List.getElem_cons_succ, ucells, this]

theorem three_boxes (w : World) (us vs xs : List Value) (T T' T'' : TypeId) (W : World) (hW : ((w.alloc (.cells us.toArray T)).alloc (.cells vs.toArray T')).alloc (.cells xs.toArray T'') = W) :
    Box w.heap.size us W ∧ Box (w.heap.size + 1) vs W ∧ Box (w.heap.size + 2) xs W ∧ Below w.heap.size w W := by
  subst hW
  obtain ⟨h0, h1⟩ := two_boxes w us vs T T'
  have h2 := Box.made ((w.alloc (.cells us.toArray T)).alloc (.cells vs.toArray T')) xs T''
  have hb := al ((w.alloc (.cells us.toArray T)).alloc (.cells vs.toArray T')) (.cells xs.toArray T'')
  simp only [World.size_alloc] at h2
  exact ⟨h0.below hb, h1.below hb, h2, below_trans (two_al w _ _) hb⟩
theorem box_block {b : Nat} {vs : List Value} {T : TypeId} {w : World} (h : w.heap[b]? = some (.cells vs.toArray T)) : Box b vs w := by
  refine ⟨(Array.getElem?_eq_some_iff.1 h).1, fun j v hj => ?_⟩
  constructor
  · simpa [World.cell?, h] using hj
  · simp [World.frozen?, h]
def tellZ (l : List Ot) (t n : Int) : Int := if rightB l t = true ∧ TickP n then 0 else 1
def tellL (l : List Ot) (t n : Int) : List Ot := if tellZ l t n = 0 then tell l n else []
def tellT (l : List Ot) (t n : Int) : Int := if tellZ l t n = 0 then t else 0
def tellM (l : List Ot) (t n : Int) : List Ot := if tellZ l t n = 0 then told l n else []
/-- An outbox, what is told, and an error are returned. -/
def TellE (l : List Ot) (t : Int) (m : List Ot) (z : Int) (w : World) (e : Ending) (w' : World) : Prop := ∃ v u, e = .returned (.tuple #[bv t v, u, .int .i64 z]) ∧ OwnU w.heap.size v l w' ∧ OwnU w.heap.size u m w' ∧ Below w.heap.size w w'

theorem due_any (v : Value) (t : Int) (hv : ∃ a n c, v = .slice a n c) (w : World) : Calls Try.prog 30 #[v, .int .i64 t] w fun e w' => e = .returned (.func (.func 35) #[] #[.pointer (some ⟨w.heap.size, 0, none⟩), .pointer (some ⟨w.heap.size + 1, 0, none⟩)]) ∧ w' = (w.alloc (.cells #[v] 22)).alloc (.cells #[.int .i64 t] 3) := by
  obtain ⟨a, n, c, rfl⟩ := hv
  have hmf := makes
  go_enter Try.func30, Try.ntmps30
  go_wp2_with fail
  go_ret
  exact ⟨rfl, rfl⟩
/-- What due hands back goes through the places that are due. -/
theorem due_stops (n : Nat) (hn : 1 ≤ n) (g g' : Nat) {w W0 : World} {v : Value} {l : List Ot} (t : Int) (hl : l.length ≤ 1000) (hrow : URow w v l) (hb : Below w.heap.size w W0) (hg : W0.cell? ⟨g, 0, none⟩ = some v) (hg' : W0.cell? ⟨g', 0, none⟩ = some (.int .i64 t)) (hgl : g < W0.heap.size) (hgl' : g' < W0.heap.size) :
    SeqStopsK Fence.wide n Try.prog 35 #[.pointer (some ⟨g, 0, none⟩), .pointer (some ⟨g', 0, none⟩)] (encU l) (KeepD g g' w.heap.size) (fun ys => ys = dueF l t) (fun _ => True) l.length W0 := fun lp J Jx W hW hJ _ hY h0 =>
  due1_in n hn lp g g' t hl hrow J Jx (fun pre A B h hb => hJ pre A B none h (grown_of_below hb) (fun r e => by cases e)) hY W ((hW.cell (p := ⟨g, 0, none⟩) hgl).trans hg) ((hW.cell (p := ⟨g', 0, none⟩) hgl').trans hg') (Nat.lt_of_lt_of_le hgl hW.size) (Nat.lt_of_lt_of_le hgl' hW.size) (below_trans hb hW) h0

/-- What stands between two rounds. -/
def TellI (W6 : World) (bt bl b0 : Nat) (l : List Ot) (nx : Int) (vl : Value) (pre : List (Fin l.length)) (W : World) : Prop :=
  (∃ v, Boxed W bt 22 v ∧ W.ownsRow b0 30 4 v pre.length (ucells (pre.map (fun i => l[i]))) ∧ True) ∧ Boxed W bl 22 vl ∧ W.ownsRow (bt + 1) 30 4 vl l.length (ucells (latF l nx pre)) ∧ Below bt W6 W ∧ b0 ≤ W.heap.size
theorem ownsRow_own (n₀ : Nat) {β : Type} (v : Value) (e : TypeId) (size k : Nat) (f : β → List Value) : Own (fun s W => W.ownsRow n₀ e size v k (f s)) := by
  intro s X Y row hr hg hrow
  refine hr.kept hg ?_
  rcases hr.2 with ⟨rfl, _⟩ | ⟨g, cap, cur, rfl, _, hgb, _⟩
  · exact .inl rfl
  · refine .inr fun e' => ?_
    obtain ⟨o, ho, hc⟩ := hrow g (by simpa [Value.ownBlock] using e'.symm)
    rw [hgb] at ho; cases ho; cases hc
theorem tellI_own (W6 : World) (bt bl b0 B : Nat) (l : List Ot) (nx : Int) (vl : Value) (h1 : bt ≤ W6.heap.size) (h2 : bt ≤ B) : OwnFrom B (TellI W6 bt bl b0 l nx vl) :=
  OwnFrom.and (Own.from (holdsRow_own b0 bt 22 30 4 (fun pre : List (Fin l.length) => pre.length) (fun pre => ucells (pre.map (fun i => l[i]))) (fun _ _ => True)) _)
    (OwnFrom.and (Own.from (boxed_own bl _ (fun _ => vl)) _) (OwnFrom.and (Own.from (ownsRow_own _ vl _ _ _ (fun pre => ucells (latF l nx pre))) _) (OwnFrom.and (ownFrom_below h1 h2) (fun _ _ _ _ hs hg _ => Nat.le_trans hs hg.size))))

/-- One more is told: what the walk owes behind it. -/
theorem tell_step {W6 W w1 : World} {bt bl b0 g g' gl cl n₀ : Nat} {l : List Ot} {nx : Int} {pre : List (Fin l.length)} {i : Fin l.length} {v v' : Value} {tmp : Obj}
    (h1 : n₀ ≤ bt) (h2 : bt < bl) (h3 : bl < g) (h4 : g < g') (h5 : g' < b0) (_hgl1 : gl ≠ bl) (hgl2 : gl < bl)
    (hv : Boxed W bt 22 v) (hrow : W.ownsRow b0 30 4 v pre.length (ucells (pre.map (fun i => l[i])))) (hbl : Boxed W bl 22 (.slice (some ⟨gl, 0, none⟩) l.length cl)) (hlat : W.ownsRow (bt + 1) 30 4 (.slice (some ⟨gl, 0, none⟩) l.length cl) l.length (ucells (latF l nx pre)))
    (hB : Below bt W6 W) (hz : b0 ≤ W.heap.size)
    (hown' : w1.ownsRow b0 30 4 v' (pre.length + 1) (ucells (pre.map (fun i => l[i])) ++ ocs l[i])) (hgrow : (W.alloc tmp).grownBy w1 v.ownBlock) :
    Boxed w1 bt 22 v ∧ Boxed (w1.setCell ⟨bt, 0, none⟩ v') bl 22 (.slice (some ⟨gl, 0, none⟩) l.length cl) ∧ Below bt W (w1.setCell ⟨bt, 0, none⟩ v') ∧
    (w1.setCell ⟨bt, 0, none⟩ v').frozen? ⟨gl, i.1 * 4 + 3, none⟩ = false ∧ (∃ u, (w1.setCell ⟨bt, 0, none⟩ v').cell? ⟨gl, i.1 * 4 + 3, none⟩ = some (.int .i64 u)) ∧ gl < (w1.setCell ⟨bt, 0, none⟩ v').heap.size ∧
    KeepsOthers W ((w1.setCell ⟨bt, 0, none⟩ v').setCell ⟨gl, i.1 * 4 + 3, none⟩ (.int .i64 nx)) ∧ KeepD g g' n₀ W ((w1.setCell ⟨bt, 0, none⟩ v').setCell ⟨gl, i.1 * 4 + 3, none⟩ (.int .i64 nx)) ∧
    TellI W6 bt bl b0 l nx (.slice (some ⟨gl, 0, none⟩) l.length cl) (pre ++ [i]) ((w1.setCell ⟨bt, 0, none⟩ v').setCell ⟨gl, i.1 * 4 + 3, none⟩ (.int .i64 nx)) := by
  have hglo : bt + 1 ≤ gl := by
    rcases hlat.2 with ⟨e, _⟩ | ⟨g0, cap, cur, e, h, _⟩
    · cases e
    · cases e; exact h
  have hsz : W.heap.size ≤ w1.heap.size := by have := hgrow.size; simp at this; omega
  have hlow : Below b0 W w1 := ((Below.refl b0 W).alloc hz tmp).grown hgrow (by simp; omega) fun j ej => (hrow.lt j ej).1
  have hv1 : Boxed w1 bt 22 v := (hlow.block _ (by omega)).trans hv
  have hbl1 : Boxed w1 bl 22 (.slice (some ⟨gl, 0, none⟩) l.length cl) := (hlow.block _ (by omega)).trans hbl
  have hvb : ∀ j, v.ownBlock = some j → b0 ≤ j := fun j e => (hrow.lt j e).1
  have hlat1 : w1.ownsRow (bt + 1) 30 4 (.slice (some ⟨gl, 0, none⟩) l.length cl) l.length (ucells (latF l nx pre)) := by
    have := (hlat.alloc tmp).kept hgrow (.inr (fun e => by have := hvb gl (by rw [← e]; rfl); omega))
    exact this
  have hnot : ∀ j, j < b0 → v'.ownBlock ≠ some j := fun j hj e => by have := (hown'.lt j e).1; omega
  have hg2 := grownBy_setCell' w1 bt v'
  have hbl2 : Boxed (w1.setCell ⟨bt, 0, none⟩ v') bl 22 (.slice (some ⟨gl, 0, none⟩) l.length cl) := hbl1.kept hg2 (by simp; omega)
  have hv2 : Boxed (w1.setCell ⟨bt, 0, none⟩ v') bt 22 v' := hv1.set v'
  have hown2 := hown'.kept hg2 (.inr (hnot _ (by omega)))
  have hlat2 := hlat1.kept hg2 (.inr (fun e => by have : gl = bt := Option.some.inj e; omega))
  have hwb : Below bt W w1 := hlow.mono (by omega)
  have hwb2 : Below bt W (w1.setCell ⟨bt, 0, none⟩ v') := hwb.setCell (p := ⟨bt, 0, none⟩) (by simp) v'
  obtain ⟨hst, hg3⟩ := World.ownsRow.stored hlat2 (i.1 * 4 + 3) (.int .i64 nx)
  have hwb3 : Below bt W ((w1.setCell ⟨bt, 0, none⟩ v').setCell ⟨gl, i.1 * 4 + 3, none⟩ (.int .i64 nx)) := hwb2.setCell (p := ⟨gl, i.1 * 4 + 3, none⟩) (show bt ≤ gl by omega) _
  have hil : i.1 < (latF l nx pre).length := by rw [latF_len]; exact i.2
  have hcell := World.ownsRow.cells hlat2 (g := gl) rfl (i.1 * 4 + 3) _ (ucells_at (latF l nx pre) i.1 hil).2.2.2
  rw [addr_add, Nat.zero_add] at hcell
  have hoth : ∀ j, j ≠ bt → j ≠ gl → j < b0 → ((w1.setCell ⟨bt, 0, none⟩ v').setCell ⟨gl, i.1 * 4 + 3, none⟩ (.int .i64 nx)).heap[j]? = W.heap[j]? := fun j e1 e2 e3 => by
    rw [heap_setCell_other _ ⟨gl, i.1 * 4 + 3, none⟩ _ _ e2, heap_setCell_other _ ⟨bt, 0, none⟩ _ _ e1]
    exact hlow.block _ e3
  refine ⟨hv1, hbl2, hwb2, World.ownsRow.frozenAt hlat2 _, ⟨_, hcell⟩, ?_, ?_, ⟨hwb3.mono h1, hoth g (by omega) (by omega) (by omega), hoth g' (by omega) (by omega) (by omega)⟩, ⟨v', ?_, ?_, trivial⟩, ?_, ?_, ?_, ?_⟩
  · exact (hlat2.lt gl rfl).2
  · refine (((KeepsOthers.alloc W tmp).trans (KeepsOthers.of_grownBy hgrow fun j o ej hj => ?_)).trans (KeepsOthers.setCell _ _ _)).trans (KeepsOthers.setCell _ _ _)
    rcases (hrow.alloc tmp).2 with ⟨rfl, _⟩ | ⟨g, cap, cur, rfl, _, hgb, _⟩
    · simp [Value.ownBlock] at ej
    · obtain rfl : g = j := by simpa [Value.ownBlock] using ej
      rw [hgb] at hj; cases hj; rfl
  · exact hv2.kept hg3 (by simp; omega)
  · rw [List.map_append, ucells_append, List.length_append]
    exact hown2.kept hg3 (.inr (hnot _ (by omega)))
  · exact hbl2.kept hg3 (by simp; omega)
  · rw [latF_snoc, ucells_d _ _ _ hil]
    exact hst
  · exact hB.trans hwb3
  · have := hg3.size
    have := hg2.size
    omega

set_option maxRecDepth 100000 in
set_option maxHeartbeats 8000000 in
theorem Tell_any {v : Value} {l : List Ot} {w : World} (t n : Int) (h : URow w v l) (hl : l.length ≤ 1000) : Calls Try.prog 9 #[bv t v, .int .i64 n] w (TellE (tellL l t n) (tellT l t n) (tellM l t n) (tellZ l t n) w) := by
  obtain ⟨a, cap, rfl⟩ := h.slice
  have H := Lib.hid h
  have hmf := makes
  obtain ⟨W0, hW0⟩ : ∃ W, ((w.alloc (.cells #[.int .i64 t, .slice a l.length cap] 24)).alloc (.cells #[.int .i64 n] 3)).alloc (.cells #[.int .i64 0, .slice none 0 0] 24) = W := ⟨_, rfl⟩
  have h3 := three_boxes w (bcs t (.slice a l.length cap)) [.int .i64 n] (bcs 0 (.slice none 0 0)) _ _ _ W0 hW0
  have HX0 := Lib.hid h3.1
  have HY0 := Lib.hid h3.2.1
  have HR0 := Lib.hid h3.2.2.1
  have HB0 := Lib.hid h3.2.2.2
  have HRT := Lib.hid (fun W (hW : Below W0.heap.size W0 W) => Right_any t ((H.out.below HB0.out).below hW) hl)
  have HTI := Lib.hid (tick_any n)
  unfold bv at HRT ⊢
  clear h h3
  unfold tellL tellT tellM
  by_cases hr : ¬ rightB l t = true
  · have e1 : tellZ l t n = 1 := if_neg (fun h => hr h.1)
    rw [show rightB l t = false by simpa using hr] at HRT
    rw [e1, if_neg (by decide), if_neg (by decide), if_neg (by decide)]
    clear hr e1
    go_enter Try.func9, Try.ntmps9
    go_upto_region 1 with (fail)
    clear hW0
    obtain ⟨c0, c1⟩ := box2 HX0.out
    have hs0 := HX0.out.1
    go_wp2_with fail
    (with_reducible refine (HRT.out _ (Below.refl _ _)).mono ?_)
    rintro e w1 ⟨rfl, hz⟩
    have HX1 := Lib.hid (HX0.out.below hz)
    have HY1 := Lib.hid (HY0.out.below hz)
    have HR1 := Lib.hid (HR0.out.below hz)
    have HB1 := Lib.hid (below_trans HB0.out hz)
    clear hz c0 c1 hs0
    obtain ⟨y0, y1⟩ := box2 HR1.out
    obtain ⟨z0, z1⟩ := frz2 HR1.out
    have hsz := HR1.out.1
    have HE := Lib.hid (below_two (b := w.heap.size + 2) (.int .i64 0) (.slice none 0 0) HB1.out (by omega))
    go_wp2_with fail
    exact bodyPost_ret (by simp [results, Try.results9, go_sem, bv, y0, y1]) rfl ⟨_, _, rfl, OwnU.nil _ _, OwnU.nil _ _, HE.out⟩
  replace hr := Decidable.not_not.1 hr
  rw [hr] at HRT
  by_cases ht : ¬ TickP n
  · have e1 : tellZ l t n = 1 := if_neg (fun h => ht h.2)
    rw [decide_eq_false ht] at HTI
    rw [e1, if_neg (by decide), if_neg (by decide), if_neg (by decide)]
    clear hr e1 ht
    go_enter Try.func9, Try.ntmps9
    go_upto_region 1 with (fail)
    clear hW0
    obtain ⟨c0, c1⟩ := box2 HX0.out
    have hs0 := HX0.out.1
    go_wp2_with fail
    (with_reducible refine (HRT.out _ (Below.refl _ _)).mono ?_)
    rintro e w1 ⟨rfl, hz⟩
    have HX1 := Lib.hid (HX0.out.below hz)
    have HY1 := Lib.hid (HY0.out.below hz)
    have HR1 := Lib.hid (HR0.out.below hz)
    have HB1 := Lib.hid (below_trans HB0.out hz)
    clear hz c0 c1 hs0
    obtain ⟨y0, y1⟩ := box2 HR1.out
    obtain ⟨z0, z1⟩ := frz2 HR1.out
    obtain ⟨c0, c1⟩ := box2 HX1.out
    have hs0 := HX1.out.1
    have q0 := box1 HY1.out
    have hs1 := HY1.out.1
    have hsz := HR1.out.1
    have HE := Lib.hid (below_two (b := w.heap.size + 2) (.int .i64 0) (.slice none 0 0) HB1.out (by omega))
    go_wp2_with fail
    (with_reducible refine (HTI.out _).mono ?_)
    rintro e w' ⟨rfl, rfl⟩
    go_wp2_with fail
    exact bodyPost_ret (by simp [results, Try.results9, go_sem, bv, y0, y1]) rfl ⟨_, _, rfl, OwnU.nil _ _, OwnU.nil _ _, HE.out⟩
  replace ht := Decidable.not_not.1 ht
  rw [decide_eq_true ht] at HTI
  rw [show tellZ l t n = 0 from if_pos ⟨hr, ht⟩, if_pos rfl, if_pos rfl, if_pos rfl]
  have HLN := Lib.hid (rightB_t.1 hr).1
  have hn0 := ht.1
  have hn1 := ht.2
  clear hr ht
  refine (callsIn_wide (n := 5)).1 ?_
  refine callsIn_of_wp_marks Try.func9 rfl trivial ?_ rfl
  simp only [Try.ntmps9, List.size_toArray, List.length_cons, List.length_nil, Nat.reduceAdd, Nat.reduceSub, Array.replicate_succ, Array.replicate_zero, List.push_toArray, List.append_toArray, List.nil_append, List.cons_append]
  obtain ⟨c0, c1⟩ := box2 HX0.out
  have hs0 := HX0.out.1
  gi_wp2_with fail
  clear hW0 c0 c1 hs0
  refine ⟨trivial, (callsIn_wide.2 (HRT.out _ (Below.refl _ _))).mono ?_⟩
  rintro e w1 ⟨rfl, hz⟩
  have HX1 := Lib.hid (HX0.out.below hz)
  have HY1 := Lib.hid (HY0.out.below hz)
  have HR1 := Lib.hid (HR0.out.below hz)
  have HB1 := Lib.hid (below_trans HB0.out hz)
  have hbt : w.heap.size + 3 ≤ w1.heap.size := by have := HR1.out.1; omega
  obtain ⟨c0, c1⟩ := box2 HX1.out
  have hs0 := HX1.out.1
  have q0 := box1 HY1.out
  have hs1 := HY1.out.1
  clear hz
  gi_wp2_with fail
  refine ⟨trivial, (callsIn_wide.2 (HTI.out _)).mono ?_⟩
  rintro e w' ⟨rfl, rfl⟩
  have hb2 := al w1 (.cells #[.slice none 0 0] 22)
  have bT := Boxed.new w1 22 (.slice none 0 0)
  obtain ⟨W2, hW2⟩ : ∃ W, w1.alloc (.cells #[.slice none 0 0] 22) = W := ⟨_, rfl⟩
  have hsz2 : W2.heap.size = w1.heap.size + 1 := by rw [← hW2]; simp
  have HD2 : Hid (Below w1.heap.size w1 W2) := Lib.hid (hW2 ▸ hb2)
  have HT2 : Hid (Boxed W2 w1.heap.size 22 (.slice none 0 0)) := Lib.hid (hW2 ▸ bT)
  clear hb2 bT c0 c1 hs0 q0 hs1
  have HX2 := Lib.hid (HX1.out.below HD2.out)
  have HB2 := Lib.hid (below_trans HB1.out HD2.out)
  obtain ⟨c0, c1⟩ := box2 HX2.out
  have hs0 := HX2.out.1
  gi_wp2_with fail
  clear hW2
  refine ⟨trivial, (callsIn_wide.2 (CloneU_any (H.out.below HB2.out) hl)).mono ?_⟩
  rintro e w3 ⟨vl, rfl, hown, hz⟩
  obtain ⟨al0, cl0, rfl⟩ := hown.row.slice
  have HO3 := Lib.hid hown
  have HD3 := Lib.hid hz
  have hsz3 : W2.heap.size ≤ w3.heap.size := hz.size
  clear hown hz c0 c1 hs0
  have hb4 := al w3 (.cells #[.slice al0 l.length cl0] 22)
  have bL := Boxed.new w3 22 (.slice al0 l.length cl0)
  obtain ⟨W4, hW4⟩ : ∃ W, w3.alloc (.cells #[.slice al0 l.length cl0] 22) = W := ⟨_, rfl⟩
  have hsz4 : W4.heap.size = w3.heap.size + 1 := by rw [← hW4]; simp
  have HD4 : Hid (Below w3.heap.size w3 W4) := Lib.hid (hW4 ▸ hb4)
  have HL4 : Hid (Boxed W4 w3.heap.size 22 (.slice al0 l.length cl0)) := Lib.hid (hW4 ▸ bL)
  clear hb4 bL
  have HD24 := Lib.hid (below_trans HD3.out HD4.out)
  have HX4 := Lib.hid (HX2.out.below HD24.out)
  have HY4 := Lib.hid (HY1.out.below (below_trans HD2.out HD24.out))
  obtain ⟨c0, c1⟩ := box2 HX4.out
  have hs0 := HX4.out.1
  have q0 := box1 HY4.out
  have hs1 := HY4.out.1
  gi_wp2_with fail
  try rw [hW4]
  clear hW4
  refine ⟨trivial, (callsIn_wide.2 (due_any (.slice a l.length cap) n ⟨_, _, _, rfl⟩ W4)).mono ?_⟩
  rintro e x ⟨rfl, rfl⟩
  obtain ⟨hg0, hg1⟩ := two_boxes W4 [.slice a l.length cap] [.int .i64 n] 22 3
  have hb6 := two_al W4 (.cells #[.slice a l.length cap] 22) (.cells #[.int .i64 n] 3)
  have hsz6 : ((W4.alloc (.cells #[.slice a l.length cap] 22)).alloc (.cells #[.int .i64 n] 3)).heap.size = W4.heap.size + 2 := by simp
  generalize (W4.alloc (.cells #[.slice a l.length cap] 22)).alloc (.cells #[.int .i64 n] 3) = W6 at hg0 hg1 hb6 hsz6 ⊢
  clear c0 c1 hs0 q0 hs1
  have HD26 := Lib.hid (below_trans HD24.out hb6)
  have HX6 := Lib.hid (HX4.out.below hb6)
  have HY6 := Lib.hid (HY4.out.below hb6)
  have HR6 := Lib.hid (HR1.out.below (below_trans HD2.out HD26.out))
  have HB6 := Lib.hid (below_trans HB2.out HD26.out)
  have HT6 : Hid (Boxed W6 w1.heap.size 22 (.slice none 0 0)) := Lib.hid ((HD26.out.block _ (by omega)).trans HT2.out)
  have HL6 : Hid (Boxed W6 w3.heap.size 22 (.slice al0 l.length cl0)) := Lib.hid ((hb6.block _ (by omega)).trans HL4.out)
  have HO6 := Lib.hid ((HO3.out.below HD4.out).below hb6)
  have HOL : Hid (∀ g, al0 = some ⟨g, 0, none⟩ → g < w3.heap.size) := Lib.hid (fun g e => by
    subst e
    exact (World.ownsRow.lt HO3.out g rfl).2)
  have HST := Lib.hid (fun (k : Nat) (hk : 1 ≤ k) => due_stops k hk W4.heap.size (W4.heap.size + 1) n hl H.out HB6.out (box1 hg0) (box1 hg1) hg0.1 hg1.1)
  clear hg0 hg1 hb6
  generalize hbl : w3.heap.size = bl at *
  generalize hbt' : w1.heap.size = bt at *
  generalize hg9 : W4.heap.size = g at *
  subst hsz4
  clear hg9
  obtain ⟨nx, hnx⟩ : ∃ nx, next n = nx := ⟨_, rfl⟩
  have HNX : Hid ((n + 10 ≤ 1099511627776 ∧ nx = n + 10) ∨ (¬ (n + 10 ≤ 1099511627776) ∧ nx = 1099511627776)) := Lib.hid (by
    unfold next at hnx
    by_cases h : n + 10 ≤ 1099511627776
    · rw [if_pos h] at hnx; exact .inl ⟨h, hnx.symm⟩
    · rw [if_neg h] at hnx; exact .inr ⟨h, hnx.symm⟩)
  have HEQ := Lib.hid (show latF l nx (dueF l n) = tell l n by rw [← hnx]; exact latF_due l n)
  clear hnx
  have hlow0 : W2.heap.size ≤ W6.heap.size := by omega
  gi_wp2_with fail
  refine wpIn_rangeFunc_ownH rfl (by omega) (gf := 35) (lb := #[.pointer (some ⟨bl + 1, 0, none⟩), .pointer (some ⟨bl + 1 + 1, 0, none⟩)]) rfl trivial (enters_of Try.func35 (by kernel_rfl) rfl)
    (HST.out _ (by omega)) KeepD.trans (KeepD.put (by omega) (by omega) (by omega)) (Below.refl _ _) (fun _ => rfl)
    (TellI W6 bt bl W6.heap.size l nx (.slice al0 l.length cl0)) (fun _ _ _ => False) (tellI_own W6 bt bl _ _ l nx _ (by omega) (by omega)) (fun _ _ _ _ _ hs _ _ => hs)
    ⟨⟨_, HT6.out, World.ownsRow_nil _ _ _ _, trivial⟩, HL6.out, by rw [latF_nil, ← hsz2]; exact HO6.out, Below.refl _ _, Nat.le_refl _⟩
    (fun i a' W => ∃ Bx, W6.heap.size ≤ Bx ∧ W.heap[Bx]? = some (.cells (ocs l[i]).toArray 30) ∧ a' = { tmps := #[.agg #[.int .i64 t, .slice a l.length cap], .int .i64 n, .pointer (some ⟨w.heap.size, 0, none⟩), .pointer (some ⟨w.heap.size + 1, 0, none⟩), .pointer (some ⟨w.heap.size + 1 + 1, 0, none⟩), .slice none 0 0, .int .i64 0, .pointer (some ⟨bt, 0, none⟩), .pointer (some ⟨bl, 0, none⟩), .int .i64 ((i.1 : Nat) : Int), .pointer (some ⟨Bx, 0, none⟩), .agg #[.int .i64 t, .slice a l.length cap], .bool true, .bool false, .bool false, .int .i64 n, .bool true, .bool false, .bool false, undef, .pointer (some ⟨w.heap.size, 1, none⟩), .slice a l.length cap, .slice al0 l.length cl0, .pointer (some ⟨w.heap.size, 1, none⟩), .slice a l.length cap, .int .i64 n, .func (.func 35) #[] #[.pointer (some ⟨bl + 1, 0, none⟩), .pointer (some ⟨bl + 1 + 1, 0, none⟩)], .int .i64 ((i.1 : Nat) : Int), .agg #[.int .i64 l[i].y, .int .i64 l[i].k, .int .i64 l[i].o, .int .i64 l[i].d], undef, undef, undef, undef, undef, undef, undef, undef, undef, undef, undef, undef, undef, undef, undef, undef], defers := [] })
    (fun i a' => fun s A B row hs hg hr => by
      obtain ⟨Bx, e1, e2, e3⟩ := hs
      exact ⟨Bx, e1, (hg.block Bx (Array.getElem?_eq_some_iff.1 e2).1 (fun e' => by obtain ⟨_, o, ho, hc⟩ := hr Bx e'.symm; rw [e2] at ho; cases ho; cases hc)).trans e2, e3⟩) ?assign ?body ?done ?stop
  case assign =>
    rintro lp pre i W K hi hK
    simp only [encU]
    unfold uv
    gi_wp2
    exact hK _ _ ((KeepsOthers.alloc _ _).from _) (KeepD.of_below (al _ _) (by have := hi.2.2.2.2; omega) (by have := hi.2.2.2.2; omega) (by have := hi.2.2.2.2; omega)) ((tellI_own W6 bt bl _ W6.heap.size l nx _ (by omega) (by omega)).alloc _ hi) ⟨W.heap.size, hi.2.2.2.2, World.alloc_heap_new W _, rfl⟩
  case body =>
    rintro lp pre i a' W hlp ⟨r, hr⟩ ⟨⟨v, hv, hrow, _⟩, hbl, hlat, hB, hz⟩ ⟨Bx, hBx, bX, rfl⟩ hlt
    have hi0 := i.2
    obtain ⟨gl, rfl⟩ : ∃ gl, al0 = some ⟨gl, 0, none⟩ := by
      rcases hlat.2 with ⟨_, h0⟩ | ⟨g0, cap, cur, e, _⟩
      · omega
      · cases e; exact ⟨_, rfl⟩
    have hgl := HOL.out gl rfl
    have hcapl : l.length ≤ cl0 ∧ cl0 ≤ 9223372036854775807 := by
      rcases hlat.2 with ⟨e, h0⟩ | ⟨g0, cap, cur, e, _, _, h1, h2, _⟩
      · cases e
      · cases e; unfold maxLen at h2; exact ⟨h1, by omega⟩
    obtain ⟨i0, hi, hz0, hz1, hz2⟩ := info_parts infoU
    have HN := Lib.hid (URow.one W l[i])
    have hbx : Box Bx (ocs l[i]) W := box_block bX
    obtain ⟨d0, d1, d2, d3⟩ := box4 hbx
    have hdz := hbx.1
    have hc := hv.cell
    have hd1 : (0 : Int) ≤ ((i.1 : Nat) : Int) := by omega
    have hd2 : ((i.1 : Nat) : Int) < l.length := by omega
    have hd3 : ((i.1 : Nat) : Int) < cl0 := by omega
    have HS := Lib.hid (fun (v' : Value) (w1 : World) (tmp : Obj) h1 h2 => tell_step (n₀ := w.heap.size) (g := bl + 1) (g' := bl + 1 + 1) (w1 := w1) (i := i) (v' := v') (tmp := tmp) (nx := nx) (by omega) (by omega) (by omega) (by omega) (by omega) (by omega) hgl hv hrow hbl hlat hB hz h1 h2)
    have HY := Lib.hid (fun (W' : World) (hb : Below bt W W') => (((hB.trans hb).cell (p := ⟨w.heap.size + 1, 0, none⟩) (by show w.heap.size + 1 < bt; omega)).trans (box1 HY6.out)))
    have hlen := HLN.out
    have HZ6 := Lib.hid hz
    have hz7 : W6.heap.size ≤ W.heap.size := hz
    have HSZ := Lib.hid hsz6
    clear hbl hlat hB hbx bX hsz6 hz
    rcases HNX.out with ⟨hnx, e⟩ | ⟨hnx, e⟩
    all_goals
      subst e
      gi_wp2_with (gi_at_builtin; refine wpListIn_append_own _ rfl _ _ 22 rfl W6.heap.size 30 i0 (.agg #[.int .i64 0, .int .i64 0, .int .i64 0, .int .i64 0]) 4 32 Try.underlying22 hi hz0 hz1 hz2 rfl (by decide) _ _ _ rfl (hrow.alloc _) ⟨W.heap.size, 0, none⟩ 1 1 (ucells [l[i]]) rfl rfl (URow.news HN.out) (ucells_one _) (by unfold maxLen; omega) (by omega) (by simp; omega) ?_; intro v' w1 hown' hgrow _; have HR := HS.out v' w1 _ hown' hgrow; obtain ⟨g', cap', rfl⟩ := ownsRow_succ hown'; have hc1 := HR.1.cell; have hf1 := HR.1.frozen; have hc2 := HR.2.1.cell; have hy := HY.out _ HR.2.2.1; have hf2 := HR.2.2.2.1; obtain ⟨u0, hu0⟩ := HR.2.2.2.2.1; have hsg := HR.2.2.2.2.2.1)
      exact ⟨HR.2.2.2.2.2.2.1.from _, HR.2.2.2.2.2.2.2.1, HR.2.2.2.2.2.2.2.2⟩
  case done =>
    rintro D ys W hD rfl ⟨⟨v, hv, hrow, _⟩, hbl, hlat, hB, hz⟩ hK
    rw [← List.length_map (f := fun i => l[i])] at hrow
    rw [dueF_told] at hrow
    rw [HEQ.out] at hlat
    have hrow' : OwnU W6.heap.size v (told l n) W := hrow
    have hlat' : OwnU (bt + 1) (.slice al0 l.length cl0) (tell l n) W := by
      unfold OwnU
      rw [show (tell l n).length = l.length by unfold tell; exact List.length_map _]
      exact hlat
    obtain ⟨av, nv, cv, rfl⟩ : ∃ a n c, v = .slice a n c := (by obtain ⟨a', c', e⟩ := hrow'.row.slice; exact ⟨a', _, c', e⟩)
    have hc8 := hbl.cell
    have hc7 := hv.cell
    have hx0 := (hB.cell (p := ⟨w.heap.size, 0, none⟩) (show w.heap.size < bt by omega)).trans (box2 HX6.out).1
    have hx1 := (hB.cell (p := ⟨w.heap.size, 1, none⟩) (show w.heap.size < bt by omega)).trans (box2 HX6.out).2
    have hy0 := (hB.cell (p := ⟨w.heap.size + 2, 0, none⟩) (show w.heap.size + 2 < bt by omega)).trans (box2 HR6.out).1
    have hy1 := (hB.cell (p := ⟨w.heap.size + 2, 1, none⟩) (show w.heap.size + 2 < bt by omega)).trans (box2 HR6.out).2
    have hz0 := (hB.frozen (p := ⟨w.heap.size + 2, 0, none⟩) (show w.heap.size + 2 < bt by omega)).trans (frz2 HR6.out).1
    have hz1 := (hB.frozen (p := ⟨w.heap.size + 2, 1, none⟩) (show w.heap.size + 2 < bt by omega)).trans (frz2 HR6.out).2
    have hsz0 : w.heap.size < W.heap.size := by omega
    have hsz1 : w.heap.size + 2 < W.heap.size := by omega
    have hszt : bt < W.heap.size := by omega
    have hszl : bl < W.heap.size := by omega
    have HRW := Lib.hid hrow'
    have HLT := Lib.hid hlat'
    have HBB := Lib.hid hB
    have hb := (HBB.out.mono (show w.heap.size ≤ bt by omega))
    have HBW := Lib.hid (HB6.out.trans hb)
    have HDR := Lib.hid (dr W)
    clear hrow hlat hrow' hlat' hB hv hbl hb
    gi_wp2_with fail
    gi_region
    all_goals gi_wp2_with fail
    all_goals
      have hko : KeepsOthers W (((W.setCell ⟨w.heap.size + 1 + 1, 0, none⟩ (.int .i64 t)).setCell ⟨w.heap.size + 1 + 1, 1, none⟩ (.slice al0 l.length cl0)).drew) := ((KeepsOthers.setCell _ _ _).trans (KeepsOthers.setCell _ _ _)).trans (KeepsOthers.drew _)
      have hK' := hko.same D _ hK rfl
      have hbz : Below w.heap.size w (((W.setCell ⟨w.heap.size + 1 + 1, 0, none⟩ (.int .i64 t)).setCell ⟨w.heap.size + 1 + 1, 1, none⟩ (.slice al0 l.length cl0)).drew) := ((HBW.out.setCell (p := ⟨w.heap.size + 1 + 1, 0, none⟩) (show w.heap.size ≤ w.heap.size + 1 + 1 by omega) _).setCell (p := ⟨w.heap.size + 1 + 1, 1, none⟩) (show w.heap.size ≤ w.heap.size + 1 + 1 by omega) _).drew
      have hl9 := ((HLT.out.far (show w.heap.size + 1 + 1 < bt + 1 by omega) 0 (.int .i64 t)).far (show w.heap.size + 1 + 1 < bt + 1 by omega) 1 (.slice al0 l.length cl0)).below (dr _)
      have hr9 := ((HRW.out.far (show w.heap.size + 1 + 1 < W6.heap.size by omega) 0 (.int .i64 t)).far (show w.heap.size + 1 + 1 < W6.heap.size by omega) 1 (.slice al0 l.length cl0)).below (dr _)
      have e0 : (((W.setCell ⟨w.heap.size + 1 + 1, 0, none⟩ (.int .i64 t)).setCell ⟨w.heap.size + 1 + 1, 1, none⟩ (.slice al0 l.length cl0)).drew).cell? ⟨w.heap.size + 1 + 1, 0, none⟩ = some (.int .i64 t) := by simp [go_sem, hy0]
      have e1 : (((W.setCell ⟨w.heap.size + 1 + 1, 0, none⟩ (.int .i64 t)).setCell ⟨w.heap.size + 1 + 1, 1, none⟩ (.slice al0 l.length cl0)).drew).cell? ⟨w.heap.size + 1 + 1, 1, none⟩ = some (.slice al0 l.length cl0) := by simp [go_sem, hy1]
      generalize (((W.setCell ⟨w.heap.size + 1 + 1, 0, none⟩ (.int .i64 t)).setCell ⟨w.heap.size + 1 + 1, 1, none⟩ (.slice al0 l.length cl0)).drew) = WZ at hK' hbz hl9 hr9 e0 e1 ⊢
      refine ⟨by simp, .inl ⟨_, _, rfl, run_takeDeferred hK', ?_⟩⟩
      have y0 := cell_kept e0 (grownBy_putObj' _ D (.deferred none)) (fun r e => by cases e; exact ⟨_, hK', rfl⟩)
      have y1 := cell_kept e1 (grownBy_putObj' _ D (.deferred none)) (fun r e => by cases e; exact ⟨_, hK', rfl⟩)
      refine ⟨.tuple #[bv t (.slice al0 l.length cl0), .slice av nv cv, .int .i64 0], ?_, .slice al0 l.length cl0, .slice av nv cv, rfl, (show OwnU (bt + 1) _ _ _ from ownsRow_putObj hl9 _ hK' rfl).mono (by omega), (show OwnU W6.heap.size _ _ _ from ownsRow_putObj hr9 _ hK' rfl).mono (by omega), hbz.trans (belowK_b (w := W6) (by omega) _ D _ _ hD hK' rfl rfl)⟩
      simp [results, Try.results9, go_sem, bv, y0, y1]
  case stop =>
    rintro D c pre W _ _ h _
    exact h.elim
end Go.Proofs.Ytlhepocjcdbhjaa.Outbox
