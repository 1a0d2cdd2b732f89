/-
  Waits in rows of the call's own, appended to; the reference's Less, May and Same of waits.
-/
import Derived.Test.YtcehhgcfkoldfaaQStand
import Derived.Laws.OwnMore
import Derived.Lib.OwnKind
import Derived.Lib.LazyBuf
import Derived.Laws.AppendOwnNone
import Derived.Deep.Onto
namespace Go.Proofs.Ytcehhgcfkoldfaa.Queue
open Go.ChangeShapes Go.WideShapes Go.ChangeAt Go.RowKit Go.Shelf Go.Lib Go.Sort

theorem addr_add (b off j : Nat) : (⟨b, off, none⟩ : Addr).add j = ⟨b, off + j, none⟩ := by
  unfold Addr.add
  split
  · rename_i h; subst h; rfl
  · rfl
def qcells : List Wt → List Value
  | [] => []
  | x :: r => .int .i64 x.c :: .int .i64 x.s :: .int .i64 x.o :: qcells r
theorem qcells_len : ∀ l : List Wt, (qcells l).length = l.length * 3
  | [] => rfl
  | x :: r => by simp [qcells, qcells_len r]; omega
theorem qcells_append : ∀ (l m : List Wt), qcells (l ++ m) = qcells l ++ qcells m
  | [], m => rfl
  | x :: r, m => by simp [qcells, qcells_append r m]
theorem qcells_at : ∀ (l : List Wt) (j : Nat) (h : j < l.length), (qcells l)[j * 3]? = some (.int .i64 l[j].c) ∧ (qcells l)[j * 3 + 1]? = some (.int .i64 l[j].s) ∧ (qcells l)[j * 3 + 2]? = some (.int .i64 l[j].o)
  | x :: r, 0, _ => ⟨rfl, rfl, rfl⟩
  | x :: r, j + 1, h => by
    have := qcells_at r j (by simpa using h)
    rw [show (j + 1) * 3 = j * 3 + 1 + 1 + 1 by omega]
    simpa [qcells] using this
theorem qcells_one : ∀ (l : List Wt) u, u ∈ qcells l → u.oneCell' = true
  | x :: r, u, h => by
    simp only [qcells, List.mem_cons] at h
    rcases h with rfl | rfl | rfl | h
    · rfl
    · rfl
    · rfl
    · exact qcells_one r u h
theorem qcells_set : ∀ (l : List Wt) (i : Nat) (x : Wt), i < l.length → qcells (l.set i x) = (((qcells l).set (i * 3) (.int .i64 x.c)).set (i * 3 + 1) (.int .i64 x.s)).set (i * 3 + 2) (.int .i64 x.o)
  | y :: r, 0, x, _ => rfl
  | y :: r, i + 1, x, h => by
    have := qcells_set r i x (by simpa using h)
    rw [show (i + 1) * 3 = i * 3 + 1 + 1 + 1 by omega]
    simp only [List.set_cons_succ, qcells, this]
theorem infoQ : (Try.prog.info? 24).map (fun i => (i.zero, i.size, i.bytes)) = some (some (.agg #[.int .i64 0, .int .i64 0, .int .i64 0]), 3, 24) := by kernel_rfl

/-- A row of waits in a block of its own, that lies at B or behind it. -/
def OwnQ (B : Nat) (v : Value) (l : List Wt) (w : World) : Prop := w.ownsRow B 24 3 v l.length (qcells l)
theorem OwnQ.row {w : World} {B : Nat} {v : Value} {l : List Wt} (h : OwnQ B v l w) : QRow w v l := by
  have hw := h
  obtain ⟨_, ⟨rfl, h2⟩ | ⟨g, cap, cur, rfl, hg, hh, hn, hm, _⟩⟩ := h
  · exact ⟨none, 0, by rw [h2], by omega, by omega, fun h => by omega⟩
  · refine ⟨_, cap, rfl, hn, by unfold maxLen at hm; omega, fun _ => ⟨g, 0, rfl, (Array.getElem?_eq_some_iff.1 hh).1, fun j hj => ?_⟩⟩
    have h1 := World.ownsRow.cells hw (g := g) rfl (j * 3) _ (qcells_at l j hj).1
    have h2 := World.ownsRow.cells hw (g := g) rfl (j * 3 + 1) _ (qcells_at l j hj).2.1
    have h3 := World.ownsRow.cells hw (g := g) rfl (j * 3 + 2) _ (qcells_at l j hj).2.2
    rw [addr_add] at h1 h2 h3
    exact ⟨h1, h2, h3⟩
theorem OwnQ.below {B : Nat} {v : Value} {l : List Wt} {w w' : World} (h : OwnQ B v l w) (hb : Below w.heap.size w w') : OwnQ B v l w' := by
  obtain ⟨h0, h1 | ⟨g, cap, cur, hv, hg, hh, hrest⟩⟩ := h
  · exact ⟨h0, .inl h1⟩
  · exact ⟨h0, .inr ⟨g, cap, cur, hv, hg, (hb.block g (Array.getElem?_eq_some_iff.1 hh).1).trans hh, hrest⟩⟩
/-- A new row is returned. -/
def NewQ (l : List Wt) (w : World) (e : Ending) (w' : World) : Prop := ∃ v, e = .returned v ∧ OwnQ w.heap.size v l w' ∧ Below w.heap.size w w'
theorem QRow.news {w : World} {ad : Addr} {cap : Nat} {l : List Wt} (h : QRow w (.slice (some ad) l.length cap) l) : ∀ j u, (qcells l)[j]? = some u → w.cell? (ad.add j) = some u := by
  intro j u hu
  have hj : j < l.length * 3 := by
    have := (List.getElem?_eq_some_iff.1 hu).1
    rwa [qcells_len] at this
  have hq : j / 3 < l.length := by omega
  obtain ⟨b, off, e, _, _, _, c1, c2, c3⟩ := h.at hq
  cases e
  have hA := qcells_at l (j / 3) hq
  rw [addr_add]
  rcases (by omega : j % 3 = 0 ∨ j % 3 = 1 ∨ j % 3 = 2) with hm | hm | hm
  · rw [show j = j / 3 * 3 by omega] at hu ⊢
    rw [hA.1] at hu
    cases hu
    exact c1
  · rw [show j = j / 3 * 3 + 1 by omega] at hu ⊢
    rw [hA.2.1] at hu
    cases hu
    exact c2
  · rw [show j = j / 3 * 3 + 2 by omega] at hu ⊢
    rw [hA.2.2] at hu
    cases hu
    exact c3

/-- Waits are appended to a row of the call's own. -/
theorem wp_append_waits {w : World} {o : Oper} {a : Act} {K : Act → World → Prop} {Q : Exit → Act → World → Prop} (s y : Operand)
    (ho : o.op = .call { callee := .builtin .append, args := #[s, y], argTypes := #[43, 43] })
    (base : Nat) (v : Value) (l0 : List Wt) (hs : a.eval s = v) (hown : OwnQ base v l0 w) (ad : Addr) (cap : Nat) (l : List Wt) (n : Nat) (hn : n = l.length) (hy : a.eval y = .slice (some ad) n cap) (hrow : QRow w (.slice (some ad) l.length cap) l) (h0 : l0.length ≤ 1000) (hl : l.length ≤ 1000) (hbase : base ≤ w.heap.size)
    (h : ∀ v' w', OwnQ base v' (l0 ++ l) w' → Below base w w' → K (a.put o.dst v') w') : o.wp Try.prog a w K Q := by
  subst hn
  obtain ⟨i0, hi, hz0, hz1, hz2⟩ := info_parts infoQ
  refine wp_append_own w s y 43 ho base 24 i0 (.agg #[.int .i64 0, .int .i64 0, .int .i64 0]) 3 24 Try.underlying43 hi hz0 hz1 hz2 rfl (by decide) v l0.length (qcells l0) hs hown ad l.length cap (qcells l) hy (by rw [qcells_len]) hrow.news (qcells_one l) (by unfold maxLen; omega) (by omega) hbase ?_
  intro v' w1 hown' hgrow _
  refine h v' w1 ?_ ((show Below base w w from Below.refl _ _).grown hgrow hbase (fun j hj => (hown.lt j hj).1))
  unfold OwnQ
  rw [qcells_append, List.length_append]
  exact hown'
theorem wpList_append_waits {w : World} {ops : Array Oper} {rest : List Oper} {o : Oper} {a : Act} {Q : Exit → Act → World → Prop} (hgd : o.guard = none) (s y : Operand)
    (ho : o.op = .call { callee := .builtin .append, args := #[s, y], argTypes := #[43, 43] })
    (base : Nat) (v : Value) (l0 : List Wt) (hs : a.eval s = v) (hown : OwnQ base v l0 w) (ad : Addr) (cap : Nat) (l : List Wt) (n : Nat) (hn : n = l.length) (hy : a.eval y = .slice (some ad) n cap) (hrow : QRow w (.slice (some ad) l.length cap) l) (h0 : l0.length ≤ 1000) (hl : l.length ≤ 1000) (hbase : base ≤ w.heap.size)
    (h : ∀ v' w', OwnQ base v' (l0 ++ l) w' → Below base w w' → wpList Try.prog ops Q rest (a.put o.dst v') w') : wpList Try.prog ops Q (o :: rest) a w :=
  wpList_plain hgd fun _ hK => wp_append_waits s y ho base v l0 hs hown ad cap l n hn hy hrow h0 hl hbase fun v' w' h1 h2 => hK _ _ (h v' w' h1 h2)
/-- A row of none, just made. -/
theorem own_none (W : World) {B : Nat} (hB : W.heap.size = B) : OwnQ B (.slice (some ⟨B, 0, none⟩) 0 0) [] (W.alloc (.cells #[] 24)) := by
  subst hB
  exact World.ownsRow_made W #[] 0 (Nat.le_refl _) (Nat.zero_le _) rfl
/-- A row of one, just made. -/
theorem row_one (W : World) (x : Wt) : QRow (W.alloc (.cells #[.int .i64 x.c, .int .i64 x.s, .int .i64 x.o] 24)) (.slice (some ⟨W.heap.size, 0, none⟩) 1 1) [x] := by
  have hb := Box.made W [.int .i64 x.c, .int .i64 x.s, .int .i64 x.o] 24
  refine ⟨_, 1, rfl, Nat.le_refl 1, by omega, fun _ => ⟨_, 0, rfl, hb.1, fun j hj => ?_⟩⟩
  match j, hj with
  | 0, _ => exact ⟨(hb.2 0 _ rfl).1, (hb.2 1 _ rfl).1, (hb.2 2 _ rfl).1⟩
set_option maxRecDepth 100000 in
set_option maxHeartbeats 1000000 in
theorem refLess_any (a b : Wt) (w : World) : Calls Try.prog 49 #[wv a, wv b] w (BoolB (ltB a b) w) := by
  have HP := Lib.hid (ltB_t (a := a) (b := b))
  have HF := Lib.hid (ltB_f (a := a) (b := b))
  have HB := Lib.hid (below_trans (al w (.cells #[.int .i64 a.c, .int .i64 a.s, .int .i64 a.o] 24)) (al _ (.cells #[.int .i64 b.c, .int .i64 b.s, .int .i64 b.o] 24)))
  generalize ltB a b = m at HP HF ⊢
  unfold wv
  unfold ltP at HP HF
  generalize a.c = ac at *
  generalize a.s = a2 at *
  generalize a.o = ao at *
  generalize b.c = bc at *
  generalize b.s = bs at *
  generalize b.o = bo at *
  by_cases h1 : ac < bc ∨ ac = bc ∧ (a2 < bs ∨ a2 = bs ∧ ao < bo)
  · obtain rfl := HP.out.2 h1
    have HN := Lib.hid h1
    clear h1 HP HF
    go_enter Try.func49, Try.ntmps49
    go_wp2
    all_goals (go_ret; exact ⟨ret_bool (by have := HN.out; simp at *; omega), HB.out⟩)
  · obtain rfl := HF.out.2 h1
    have HN := Lib.hid h1
    clear h1 HP HF
    go_enter Try.func49, Try.ntmps49
    go_wp2
    all_goals (go_ret; exact ⟨ret_bool (by have := HN.out; simp at *; omega), HB.out⟩)

set_option maxRecDepth 100000 in
set_option maxHeartbeats 1000000 in
theorem refMay_any (x : Wt) (w : World) : Calls Try.prog 36 #[wv x] w (BoolB (mayB x) w) := by
  have HP := Lib.hid (mayB_t (x := x))
  have HF := Lib.hid (mayB_f (x := x))
  generalize mayB x = m at HP HF ⊢
  unfold wv
  unfold mayP at HP HF
  generalize x.c = c at HP HF ⊢
  generalize x.s = s at HP HF ⊢
  generalize x.o = o at HP HF ⊢
  by_cases h1 : 0 ≤ c ∧ c ≤ 3 ∧ 1 ≤ s ∧ s ≤ 1099511627776 ∧ 1 ≤ o ∧ o ≤ 1099511627776
  · obtain rfl := HP.out.2 h1
    obtain ⟨a1, a2, a3, a4, a5, a6⟩ := h1
    clear HP HF
    go_enter Try.func36, Try.ntmps36
    go_wp2
    go_ret
    exact ⟨rfl, al _ _⟩
  · obtain rfl := HF.out.2 h1
    have HN := Lib.hid h1
    clear h1 HP HF
    go_enter Try.func36, Try.ntmps36
    go_wp2
    all_goals first
      | (exfalso; have := HN.out; omega)
      | (go_ret; exact ⟨rfl, al _ _⟩)
      | (go_ret; exact ⟨ret_bool (by have := HN.out; simp; omega), al _ _⟩)

set_option maxRecDepth 100000 in
set_option maxHeartbeats 1000000 in
theorem Same_yes {v u : Value} {l : List Wt} {w : World} (h : QRow w v l) (hu : QRow w u l) : Calls Try.prog 24 #[v, u] w (BoolB true w) := by
  obtain ⟨a, cap, rfl⟩ := h.slice
  obtain ⟨a', cap', rfl⟩ := hu.slice
  have H := Lib.hid h
  have HU := Lib.hid hu
  clear h hu
  go_enter Try.func24, Try.ntmps24
  go_wp2
  go_loopw [5, 13] (fun _ i wr => ∃ k : Nat, k ≤ l.length ∧ i = .int .i64 k ∧ Below w.heap.size w wr) (fun _ i _ => l.length - (Go.RowKit.intOf i).toNat)
  case atStart => exact ⟨0, Nat.zero_le _, rfl, Below.refl _ _⟩
  case round =>
    obtain ⟨k, hk, rfl, hr⟩ := hrel
    have HR := Lib.hid hr
    clear hr
    by_cases hlt : k < l.length
    · obtain ⟨b, off, rfl, hlc, hcap, hb, k0, k1, k2⟩ := (H.out.below HR.out).at hlt
      obtain ⟨b', off', rfl, hlc', hcap', hb', j0, j1, j2⟩ := (HU.out.below HR.out).at hlt
      go_upto_region 6 with fail
      go_region
      go_wp2_with fail
      go_roundw
      case rel => exact ⟨k + 1, by omega, by go_num, below_trans HR.out (dr _)⟩
      case measure => simp [Go.RowKit.intOf]; omega
    · obtain rfl : k = l.length := by omega
      go_wp2
      go_ret
      exact ⟨rfl, HR.out⟩

end Go.Proofs.Ytcehhgcfkoldfaa.Queue
