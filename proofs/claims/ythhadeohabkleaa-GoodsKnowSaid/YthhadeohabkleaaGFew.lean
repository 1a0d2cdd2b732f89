/-
  Contract of the law's own few; steps of a drawn region by hand.
-/
import Derived.Test.YthhadeohabkleaaGRef3
import Derived.Deep.CutRange
namespace Go.Proofs.Ythhadeohabkleaa.Goods
open Go.ChangeShapes Go.WideShapes Go.ChangeAt Go.RowKit Go.Shelf Go.Lib

section
variable {P : Program} {md : Region.Mode} {ops : Array Oper} {Q : Exit → Act → World → Prop} {S : World → Prop}
/-- What is asked behind a panic does not hang on the frame. -/
def Calm (Q : Exit → Act → World → Prop) : Prop := ∀ c a o v w, Q (.panic c) (Act.put a o v) w → Q (.panic c) a w
theorem calm_then {K : Act → World → Prop} (h : Calm Q) : Calm (Exit.then K Q) := h
theorem calm_body {fn : Func} {post : Ending → World → Prop} : Calm (bodyPost P fn post) := fun _ a o _ _ h => by cases o <;> exact h
theorem calm_np : Calm (NoPanic Q) := fun _ _ _ _ _ h => h
/-- An operation whose guard says no is passed over. -/
theorem skipH (i d : Nat) {oi : Oper} {fuel : Nat} {listed : Array Bool} {a : Act} {w : World} (hQ : Calm Q) (hi : ops[i]? = some oi) (hd : oi.dst = some d) (hs : Region.noSelect ops = true) (hf : Region.free md ops listed i = true) (hr : (Region.ready md ops listed).contains i = true)
    (hw : Region.wanted oi (yielded ops a.tmps) = false) (hS : S w)
    (h : wpAnyH P md ops Q S fuel (listed.setIfInBounds i true) (a.put (some d) undef) w) : wpAnyH P md ops Q S (fuel + 1) listed a w :=
  wpAnyH_take hi hs hf hr (fun c a w' => hQ c a _ _ w') (.inr ⟨hw, rfl⟩) hS (by rw [hd]; exact h)
theorem takeH (i d : Nat) (v : Value) {oi : Oper} {fuel : Nat} {listed : Array Bool} {a : Act} {w : World} (hQ : Calm Q) (hi : ops[i]? = some oi) (hd : oi.dst = some d) (hs : Region.noSelect ops = true) (hf : Region.free md ops listed i = true) (hr : (Region.ready md ops listed).contains i = true)
    (hw : Region.wanted oi (yielded ops a.tmps) = true) (hy : ∀ w, S w → (execOp a.eval oi).run P w = .ok (.value v) w) (hS : S w)
    (h : wpAnyH P md ops Q S fuel (listed.setIfInBounds i true) (a.put (some d) v) w) : wpAnyH P md ops Q S (fuel + 1) listed a w :=
  wpAnyH_take hi hs hf hr (fun c a w' => hQ c a _ _ w') (.inl ⟨hw, hy⟩) hS (by rw [hd]; exact h)
end

/-- few's blocks: the goods that came, the result, the variable; its two rows. -/
def FewB (w : World) (xs : List Value) (u v : Value) (s : List ByteArray) (l : List Sb) (W : World) : Prop :=
  Box w.heap.size xs W ∧ Box (w.heap.size + 1) [.slice none 0 0, .slice none 0 0] W ∧ Box (w.heap.size + 1 + 1) [u, v] W ∧ OwnT (w.heap.size + 1 + 1 + 1) u s W ∧ OwnG (w.heap.size + 1 + 1 + 1) v l W ∧ Below w.heap.size w W ∧ w.heap.size + 1 + 1 + 1 ≤ W.heap.size
theorem FewB.below {w W W' : World} {xs : List Value} {u v : Value} {s : List ByteArray} {l : List Sb} (h : FewB w xs u v s l W) (hb : Below W.heap.size W W') : FewB w xs u v s l W' :=
  ⟨h.1.below hb, h.2.1.below hb, h.2.2.1.below hb, h.2.2.2.1.below hb, h.2.2.2.2.1.below hb, below_trans h.2.2.2.2.2.1 hb, Nat.le_trans h.2.2.2.2.2.2 hb.size⟩
theorem Box.keep {b B : Nat} {vs : List Value} {w w' : World} (h : Box b vs w) (hb : Below B w w') (hB : b < B) : Box b vs w' :=
  ⟨Nat.lt_of_lt_of_le h.1 hb.size, fun j v hj => ⟨(hb.cell (p := ⟨b, j, none⟩) hB).trans (h.2 j v hj).1, (hb.frozen (p := ⟨b, j, none⟩) hB).trans (h.2 j v hj).2⟩⟩
theorem own_store {B b j : Nat} {v u : Value} {l : List ByteArray} {W : World} (h : OwnT B v l W) (hb : b < B) : OwnT B v l (W.setCell ⟨b, j, none⟩ u) := by
  obtain ⟨h0, h1 | ⟨g, cap, cur, hv, hg, hh, hrest⟩⟩ := h
  · exact ⟨h0, .inl h1⟩
  · exact ⟨h0, .inr ⟨g, cap, cur, hv, hg, (heap_setCell_other _ ⟨b, j, none⟩ _ _ (by show g ≠ b; omega)).trans hh, hrest⟩⟩
theorem own_storeG {B b j : Nat} {v u : Value} {l : List Sb} {W : World} (h : OwnG B v l W) (hb : b < B) : OwnG B v l (W.setCell ⟨b, j, none⟩ u) := by
  obtain ⟨h0, h1 | ⟨g, cap, cur, hv, hg, hh, hrest⟩⟩ := h
  · exact ⟨h0, .inl h1⟩
  · exact ⟨h0, .inr ⟨g, cap, cur, hv, hg, (heap_setCell_other _ ⟨b, j, none⟩ _ _ (by show g ≠ b; omega)).trans hh, hrest⟩⟩
/-- A text more. -/
theorem FewB.text {w W W1 : World} {xs : List Value} {u u' : Value} {s s' : List ByteArray} (h : FewB w xs u (.slice none 0 0) s [] W) (ho : OwnT (w.heap.size + 1 + 1 + 1) u' s' W1) (hb : Below (w.heap.size + 1 + 1 + 1) W W1) :
    Box (w.heap.size + 1 + 1) [u, .slice none 0 0] W1 ∧ FewB w xs u' (.slice none 0 0) s' [] (W1.setCell ⟨w.heap.size + 1 + 1, 0, none⟩ u') := by
  obtain ⟨h1, h2, h3, h4, h5, h6, h7⟩ := h
  have k3 := h3.keep hb (by omega)
  refine ⟨k3, (h1.keep hb (by omega)).other (by omega) _ _, (h2.keep hb (by omega)).other (by omega) _ _, k3.put 0 u' (by simp), own_store ho (by omega), OwnG.nil _ _, (h6.trans (hb.mono (by omega))).setCell (by show w.heap.size ≤ w.heap.size + 1 + 1; omega) _, ?_⟩
  have := hb.size
  simpa using Nat.le_trans h7 this
/-- The two rows' blocks are not the same. -/
theorem rows_apart {B B' : Nat} {u v : Value} {s : List ByteArray} {l : List Sb} {W : World} (h : OwnT B u s W) (h' : OwnG B' v l W) : u.ownBlock = none ∨ u.ownBlock ≠ v.ownBlock := by
  obtain ⟨_, ⟨rfl, _⟩ | ⟨g, cap, cur, rfl, hg, hh, _⟩⟩ := h
  · exact .inl rfl
  · obtain ⟨_, ⟨rfl, _⟩ | ⟨g', cap', cur', rfl, hg', hh', _⟩⟩ := h'
    · exact .inr (by intro e; cases e)
    · refine .inr fun e => ?_
      have e : g = g' := by injection e
      subst e
      rw [hh] at hh'
      injection hh' with hh'
      injection hh' with _ e2 _
      exact absurd e2 (by decide)
/-- A rule more. -/
theorem FewB.rule {w W W1 : World} {xs : List Value} {u v v' : Value} {s : List ByteArray} {l l' : List Sb} (h : FewB w xs u v s l W) (ho : OwnG (w.heap.size + 1 + 1 + 1) v' l' W1) (hb : Below (w.heap.size + 1 + 1 + 1) W W1) (hg : W.grownBy W1 v.ownBlock) :
    Box (w.heap.size + 1 + 1) [u, v] W1 ∧ FewB w xs u v' s l' (W1.setCell ⟨w.heap.size + 1 + 1, 1, none⟩ v') := by
  obtain ⟨h1, h2, h3, h4, h5, h6, h7⟩ := h
  have k3 := h3.keep hb (by omega)
  refine ⟨k3, (h1.keep hb (by omega)).other (by omega) _ _, (h2.keep hb (by omega)).other (by omega) _ _, k3.put 1 v' (by simp), own_store (World.ownsRow.kept h4 hg (rows_apart h4 h5)) (by omega), own_storeG ho (by omega), (h6.trans (hb.mono (by omega))).setCell (by show w.heap.size ≤ w.heap.size + 1 + 1; omega) _, ?_⟩
  have := hb.size
  simpa using Nat.le_trans h7 this
theorem step_append_G_out {w : World} {ops : Array Oper} {o : Oper} {a : Act} {K : Act → World → Prop} {Q : Exit → Act → World → Prop} {E : Prop} (hgd : o.guard = none) (d : Nat) (hd : o.dst = some d) (s y : Operand)
    (ho : o.op = .call { callee := .builtin .append, args := #[s, y], argTypes := #[23, 23] })
    (base : Nat) (v : Value) (l0 : List Sb) (hs : a.eval s = v) (hown : OwnG base v l0 w) (ad : Addr) (x : Sb) (hy : a.eval y = .slice (some ad) 1 1) (hrow : GRow w (.slice (some ad) 1 1) [x]) (h0 : l0.length ≤ 100000) (hbase : base ≤ w.heap.size)
    (h : ∀ v' w', OwnG base v' (l0 ++ [x]) w' → Below base w w' → w.grownBy w' v.ownBlock → K (a.put (some d) v') w') : if Region.wanted o (yielded ops a.tmps) = true then Oper.wp Try.prog o a w K Q else E := by
  have hw : Region.wanted o (yielded ops a.tmps) = true := by simp [Region.wanted, hgd]
  rw [if_pos hw]
  rw [← hd] at h
  obtain ⟨i0, hi, hz0, hz1, hz2⟩ := info_parts infoG
  refine wp_append_own w s y 23 ho base 27 i0 (.agg #[.string ⟨#[]⟩, .string ⟨#[]⟩, .int .i64 0, .int .i64 0, .int .i64 0]) 5 56 Try.underlying23 hi hz0 hz1 hz2 rfl (by decide) v l0.length (gcells l0) hs hown ad 1 1 (gcells [x]) hy rfl (show GRow w (.slice (some ad) [x].length 1) [x] from hrow).news (gcells_one [x]) (by unfold maxLen; omega) (by omega) hbase ?_
  intro v' w1 hown' hgrow _
  refine h v' w1 ?_ ((show Below base w w from ⟨rfl, rfl, rfl, Nat.le_refl _, fun _ _ => rfl⟩).grown hgrow hbase (fun j hj => (hown.lt j hj).1)) hgrow
  unfold OwnG
  rw [gcells_append, List.length_append]
  exact hown'

/-- Behind few's last stores. -/
theorem few_end {w W : World} {xs : List Value} {u v : Value} {s : List ByteArray} {l : List Sb} (h : FewB w xs u v s l W) :
    GGood ((W.setCell ⟨w.heap.size + 1, 0, none⟩ u).setCell ⟨w.heap.size + 1, 1, none⟩ v) u v s l ∧ Below w.heap.size w ((W.setCell ⟨w.heap.size + 1, 0, none⟩ u).setCell ⟨w.heap.size + 1, 1, none⟩ v) ∧ (∀ g, u.ownBlock = some g → w.heap.size ≤ g) ∧ ∀ g, v.ownBlock = some g → w.heap.size ≤ g := by
  obtain ⟨h1, h2, h3, h4, h5, h6, h7⟩ := h
  exact ⟨⟨(own_store (own_store h4 (by omega)) (by omega)).row, (own_storeG (own_storeG h5 (by omega)) (by omega)).row⟩, below_two u v h6 (by omega), fun g hg => by have := (World.ownsRow.lt h4 g hg).1; omega, fun g hg => by have := (World.ownsRow.lt h5 g hg).1; omega⟩

/-- What came in. -/
def ArgT (w : World) (v : Value) : Prop := ∃ l, TRow w v l ∧ ∀ x ∈ l, x.size ≤ 9223372036854775807
def ArgG (w : World) (v : Value) : Prop := ∃ l, GRow w v l ∧ ∀ x ∈ l, x.f.size ≤ 9223372036854775807 ∧ x.t.size ≤ 9223372036854775807
/-- Few, and short. -/
def Tiny (s : List ByteArray) (l : List Sb) : Prop := s.length ≤ 10 ∧ l.length ≤ 18 ∧ (∀ x ∈ s, x.size ≤ 18) ∧ ∀ x ∈ l, x.f.size ≤ 18 ∧ x.t.size ≤ 18
theorem Tiny.short {s : List ByteArray} {l : List Sb} (h : Tiny s l) : Short s l := ⟨by have := h.1; omega, by have := h.2.1; omega, fun x hx => by have := h.2.2.1 x hx; omega, fun x hx => ⟨by have := (h.2.2.2 x hx).1; omega, by have := (h.2.2.2 x hx).2; omega⟩⟩
def FewE (w : World) (e : Ending) (w' : World) : Prop := ∃ v u s l, e = .returned (.agg #[v, u]) ∧ Tiny s l ∧ GGood w' v u s l ∧ Below w.heap.size w w' ∧ (∀ g, v.ownBlock = some g → w.heap.size ≤ g) ∧ ∀ g, u.ownBlock = some g → w.heap.size ≤ g

set_option maxRecDepth 100000 in
set_option maxHeartbeats 4000000 in
theorem few_any {va vb : Value} {w : World} (ha : ArgT w va) (hb : ArgG w vb) : Calls Try.prog 6 #[.agg #[va, vb]] w (FewE w) := by
  obtain ⟨s0, ha, has⟩ := ha
  obtain ⟨l0, hb, hbs⟩ := hb
  obtain ⟨aa, ca, rfl⟩ := ha.slice
  obtain ⟨ab, cb, rfl⟩ := hb.slice
  obtain ⟨hca1, hca2⟩ := ha.cap.2
  obtain ⟨hcb1, hcb2⟩ := hb.cap.2
  have HAC : Hid (∀ W, Below w.heap.size w W → ∀ q, q < s0.length → ∃ (b off : Nat) (t : ByteArray), aa = some ⟨b, off, none⟩ ∧ b < W.heap.size ∧ W.cell? ⟨b, off + q, none⟩ = some (.string t) ∧ t.size ≤ 9223372036854775807) := Lib.hid fun W hW q hq => by
    obtain ⟨b, off, e, _, _, hb, hc⟩ := (ha.below hW).at hq
    exact ⟨b, off, _, e, hb, hc, has _ (List.getElem_mem hq)⟩
  have HBC : Hid (∀ W, Below w.heap.size w W → ∀ q, q < l0.length → ∃ (b off : Nat) (y : Sb), ab = some ⟨b, off, none⟩ ∧ b < W.heap.size ∧ (W.cell? ⟨b, off + q * 5, none⟩ = some (.string y.f) ∧ W.cell? ⟨b, off + q * 5 + 1, none⟩ = some (.string y.t) ∧ W.cell? ⟨b, off + q * 5 + 2, none⟩ = some (.int .i64 y.r) ∧ W.cell? ⟨b, off + q * 5 + 3, none⟩ = some (.int .i64 y.n) ∧ W.cell? ⟨b, off + q * 5 + 4, none⟩ = some (.int .i64 y.d)) ∧ y.f.size ≤ 9223372036854775807 ∧ y.t.size ≤ 9223372036854775807) := Lib.hid fun W hW q hq => by
    obtain ⟨b, off, e, _, _, hb, hc⟩ := (hb.below hW).at hq
    exact ⟨b, off, _, e, hb, hc, hbs _ (List.getElem_mem hq)⟩
  obtain ⟨n, hn, hnl, hn20⟩ : ∃ n : Nat, min (s0.length : Int) 10 = n ∧ n ≤ s0.length ∧ n ≤ 10 := ⟨min s0.length 10, by omega, by omega, by omega⟩
  have hF0 : FewB w [.slice aa s0.length ca, .slice ab l0.length cb] (.slice none 0 0) (.slice none 0 0) [] [] (((w.alloc (.cells #[.slice aa s0.length ca, .slice ab l0.length cb] 25)).alloc (.cells #[.slice none 0 0, .slice none 0 0] 25)).alloc (.cells #[.slice none 0 0, .slice none 0 0] 25)) := by
    have hx := (Box.made w [.slice aa s0.length ca, .slice ab l0.length cb] 25).below (below_trans (al _ (.cells #[.slice none 0 0, .slice none 0 0] 25)) (al _ (.cells #[.slice none 0 0, .slice none 0 0] 25)))
    have hy := (Box.made (w.alloc (.cells #[.slice aa s0.length ca, .slice ab l0.length cb] 25)) [.slice none 0 0, .slice none 0 0] 25).below (al _ (.cells #[.slice none 0 0, .slice none 0 0] 25))
    have hz := Box.made ((w.alloc (.cells #[.slice aa s0.length ca, .slice ab l0.length cb] 25)).alloc (.cells #[.slice none 0 0, .slice none 0 0] 25)) [.slice none 0 0, .slice none 0 0] 25
    simp only [World.size_alloc] at hy hz
    exact ⟨hx, hy, hz, OwnT.nil _ _, OwnG.nil _ _, below_trans (below_trans (al _ _) (al _ _)) (al _ _), by simp only [World.size_alloc]; omega⟩
  have HF0 := Lib.hid hF0
  clear ha hb has hbs hF0
  generalize s0.length = lena at *
  generalize l0.length = lenb at *
  go_enter Try.func6, Try.ntmps6
  go_upto_region 2 with (fail)
  generalize (((w.alloc (.cells #[.slice aa lena ca, .slice ab lenb cb] 25)).alloc (.cells #[.slice none 0 0, .slice none 0 0] 25)).alloc (.cells #[.slice none 0 0, .slice none 0 0] 25)) = W0 at HF0 ⊢
  obtain ⟨p0, p1⟩ := HF0.out.1.c2
  have hp := HF0.out.1.1
  go_cut [14, 15, 16] from 8 to 16 (fun v z i wx => v = .slice aa n ca ∧ z = .int .i64 n ∧ i = .int .i64 0 ∧ wx = W0)
  case first =>
    have hc : (10 < lena ∧ n = 10) ∨ (lena ≤ 10 ∧ n = lena) := by omega
    rcases hc with ⟨hc, rfl⟩ | ⟨hc, rfl⟩
    all_goals (
      clear hn
      go_wp2_with fail
      go_meet
      exact ⟨rfl, rfl, rfl, rfl⟩)
  case rest =>
  obtain ⟨rfl, rfl, rfl, rfl⟩ := hcut
  clear p0 p1 hp
  go_wp2_with fail
  go_loopw [5, 16] (fun _ i wr => ∃ u s, s.length ≤ n ∧ i = .int .i64 s.length ∧ (∀ x ∈ s, x.size ≤ 18) ∧ FewB w [.slice aa lena ca, .slice ab lenb cb] u (.slice none 0 0) s [] wr) (fun _ i _ => n - (RowKit.intOf i).toNat)
  case atStart => exact ⟨_, [], Nat.zero_le _, rfl, by simp, HF0.out⟩
  case round =>
    clear HF0 hn
    obtain ⟨u, s, hsn, rfl, hall, hF⟩ := hrel
    have HF := Lib.hid hF
    have HAL := Lib.hid hall
    clear hall
    by_cases hlt : s.length < n
    · obtain ⟨b, off, t, rfl, hb, k0, hsz0⟩ := HAC.out _ hF.2.2.2.2.2.1 s.length (by omega)
      obtain ⟨q, hq, hqt, hq18⟩ : ∃ q : Nat, (if (18 : Int) < (t.size : Int) then (18 : Int) else (t.size : Int)) = q ∧ q ≤ t.size ∧ q ≤ 18 := ⟨min t.size 18, by split <;> omega, by omega, by omega⟩
      have i0 : (0 : Int) ≤ (q : Int) := by omega
      have i1 : (q : Int) ≤ (t.size : Int) := by omega
      obtain ⟨o0, o1⟩ := hF.2.2.1.c2
      obtain ⟨f0, f1⟩ := hF.2.2.1.z2
      have hsb := hF.2.2.1.1
      have hsw := hF.2.2.2.2.2.2
      obtain ⟨ua, un, uc, rfl⟩ : ∃ a n c, u = .slice a n c := (by obtain ⟨a', c', e⟩ := hF.2.2.2.1.row.slice; exact ⟨a', _, c', e⟩)
      clear hF
      go_upto_region 5 with (fail)
      have HFd := Lib.hid (HF.out.below (below_trans (al wr (.cells #[.string (t.extract 0 q)] 9)) (dr _)))
      have HN := Lib.hid ((TRow.one wr (t.extract 0 q)).below (dr _))
      have hsd : w.heap.size + 1 + 1 + 1 ≤ (wr.alloc (.cells #[.string (t.extract 0 q)] 9)).drew.heap.size := HFd.out.2.2.2.2.2.2
      go_region_law ((refine step_append_T (by rfl) _ (by rfl) _ _ (by rfl) (w.heap.size + 1 + 1 + 1) _ s (by rfl) HFd.out.2.2.2.1 _ [t.extract 0 q] (by rfl) HN.out (by omega) (by simp) hsd ?_; intro v' w1 hown hbel; obtain ⟨a1, n1, c1, rfl⟩ : ∃ a n c, v' = .slice a n c := (by obtain ⟨a', c', e⟩ := hown.row.slice; exact ⟨a', _, c', e⟩); have HE := Lib.hid (HFd.out.text hown hbel); obtain ⟨q0, q1⟩ := HE.out.1.c2; obtain ⟨r0, r1⟩ := HE.out.1.z2; have hse := HE.out.1.1; clear hown hbel))
      all_goals
        clear q0 q1 r0 r1 hq
        go_wp2
        go_roundw
        case rel =>
          refine ⟨_, s ++ [t.extract 0 q], by simp; omega, by simp, ?_, HE.out.2⟩
          intro y hy
          rcases List.mem_append.1 hy with h | h
          · exact HAL.out y h
          · obtain rfl := List.mem_singleton.1 h
            rw [ByteArray.size_extract]; omega
        case measure => simp [RowKit.intOf]; omega
    · --REST
      obtain ⟨ua, un, uc, rfl⟩ : ∃ a n c, u = .slice a n c := (by obtain ⟨a', c', e⟩ := hF.2.2.2.1.row.slice; exact ⟨a', _, c', e⟩)
      obtain ⟨m, hm, hml, hm18⟩ : ∃ m : Nat, (if (18 : Int) < (lenb : Int) then (18 : Int) else (lenb : Int)) = m ∧ m ≤ lenb ∧ m ≤ 18 := ⟨min lenb 18, by split <;> omega, by omega, by omega⟩
      have j0 : (0 : Int) ≤ (m : Int) := by omega
      have j1 : (m : Int) ≤ (lenb : Int) := by omega
      have j2 : (m : Int) ≤ (cb : Int) := by omega
      obtain ⟨p0, p1⟩ := hF.1.c2
      have hp := hF.1.1
      clear hF
      go_wp2_with fail
      clear hm j0 j1 j2 p0 p1 hp
      rename World => W1
      go_loopw [7, 39] (fun _ i wr => ∃ v l, l.length ≤ m ∧ i = .int .i64 l.length ∧ (∀ x ∈ l, x.f.size ≤ 18 ∧ x.t.size ≤ 18) ∧ FewB w [.slice aa lena ca, .slice ab lenb cb] (.slice ua un uc) v s l wr) (fun _ i _ => m - (RowKit.intOf i).toNat)
      case atStart => exact ⟨_, [], Nat.zero_le _, rfl, by simp, HF.out⟩
      case round =>
        clear HF
        obtain ⟨v, l, hlm, rfl, hall, hF⟩ := hrel
        have HF := Lib.hid hF
        have HALL := Lib.hid hall
        clear hall
        by_cases hlt2 : l.length < m
        · obtain ⟨b, off, y, rfl, hb, ⟨k0, k1, k2, k3, k4⟩, hyf, hyt⟩ := HBC.out _ hF.2.2.2.2.2.1 l.length (by omega)
          obtain ⟨va, vn, vc, rfl⟩ : ∃ a n c, v = .slice a n c := (by obtain ⟨a', c', e⟩ := hF.2.2.2.2.1.row.slice; exact ⟨a', _, c', e⟩)
          have hc := fun W => cut_any y hyf hyt W
          have hz18 : (cutR y).f.size ≤ 18 ∧ (cutR y).t.size ≤ 18 := ⟨cutT_size _, cutT_size _⟩
          generalize cutR y = z at hc hz18
          unfold SubB at hc
          unfold sv at hc
          have HC := Lib.hid hc
          have HZ18 := Lib.hid hz18
          have hxy := Box.made wr (sl y) 27
          have hba := al wr (.cells (sl y).toArray 27)
          unfold sl at hxy hba
          have HXY := Lib.hid hxy
          have HFA := Lib.hid (HF.out.below hba)
          have HNE := Lib.hid (own_ne HF.out.2.2.2.2.1)
          have HNEQ : Hid (w.heap.size + 1 + 1 < wr.heap.size) := Lib.hid (by have := HF.out.2.2.2.2.2.2; omega)
          clear hc hz18 hxy hba hF hyf hyt
          go_upto_region 10 with (fail)
          generalize hg : wr.heap.size = g at *
          generalize wr.alloc (.cells #[.string y.f, .string y.t, .int .i64 y.r, .int .i64 y.n, .int .i64 y.d] 27) = W2 at *
          clear k0 k1 k2 k3 k4 hg
          have hws := HFA.out.2.2.2.2.2.2
          refine wp_region_noPanic ?_
          refine wp_region_held_drew (S := fun W' => Box g [.string y.f, .string y.t, .int .i64 y.r, .int .i64 y.n, .int .i64 y.d] W') (by kernel_rfl) (HXY.out.below (dr _)) (fun hHeld => ?_)
          try simp only [Act.put, List.setIfInBounds_toArray, List.set_cons_zero, List.set_cons_succ]
          refine takeH 0 43 (.pointer (some ⟨w.heap.size + 1 + 1, 1, none⟩)) calm_np rfl rfl (by kernel_rfl) (by kernel_rfl) (by kernel_rfl) (by rfl) (fun w hSw => by go_simp) hHeld ?_
          try simp only [Act.put, List.setIfInBounds_toArray, List.set_cons_zero, List.set_cons_succ]
          refine takeH 2 45 (.agg #[.string y.f, .string y.t, .int .i64 y.r, .int .i64 y.n, .int .i64 y.d]) calm_np rfl rfl (by kernel_rfl) (by kernel_rfl) (by kernel_rfl) (by rfl) (fun w hSw => by obtain ⟨y0, y1, y2, y3, y4⟩ := hSw.c5; go_simp) hHeld ?_
          try simp only [Act.put, List.setIfInBounds_toArray, List.set_cons_zero, List.set_cons_succ]
          refine wpAnyH_ready (rs := [1, 3]) (by kernel_rfl) (by simp) (AllReadyH.cons rfl (fun K hK => ?_) (AllReadyH.cons rfl (fun K hK => ?_) AllReadyH.nil))
          · obtain ⟨o0, o1⟩ := (HFA.out.below (dr _)).2.2.1.c2
            go_simp
            refine hK.out _ _ hHeld (fun hHeld => ?_)
            clear hK o0 o1
            try simp only [Act.put, List.setIfInBounds_toArray, List.set_cons_zero, List.set_cons_succ]
            refine wpAnyH_ready (rs := [3]) (by kernel_rfl) (by simp) (AllReadyH.cons rfl (fun K hK => ?_) AllReadyH.nil)
            go_simp
            go_at_call 7
            refine (HC.out _).mono ?_
            rintro e W3 ⟨rfl, hz⟩
            have HF3 := Lib.hid ((HFA.out.below (dr _)).below hz)
            have hh3 := hHeld.below hz
            clear hz
            go_simp
            refine hK.out _ _ hh3 (fun hHeld => ?_)
            clear hK
            try simp only [Act.put, List.setIfInBounds_toArray, List.set_cons_zero, List.set_cons_succ]
            refine wpAnyH_ready (rs := [4]) (by kernel_rfl) (by simp) (AllReadyH.cons rfl (fun K hK => ?_) AllReadyH.nil)
            go_simp
            have ha4 := al W3 (.cells #[.string z.f, .string z.t, .int .i64 z.r, .int .i64 z.n, .int .i64 z.d] 27)
            have HF4 := Lib.hid (HF3.out.below ha4)
            have HONE := Lib.hid (GRow.one W3 z)
            refine hK.out _ _ (hHeld.below ha4) (fun hHeld => ?_)
            clear hK ha4
            try simp only [Act.put, List.setIfInBounds_toArray, List.set_cons_zero, List.set_cons_succ]
            refine wpAnyH_ready (rs := [5]) (by kernel_rfl) (by simp) (AllReadyH.cons rfl (fun K hK => ?_) AllReadyH.nil)
            have hws4 := HF4.out.2.2.2.2.2.2
            refine step_append_G_out rfl 48 rfl _ _ rfl (w.heap.size + 1 + 1 + 1) _ l rfl HF4.out.2.2.2.2.1 _ z rfl HONE.out (by omega) hws4 (fun v5 W5 ho5 hb5 hg5 => ?_)
            have hh5 := hHeld.kept hg5 HNE.out
            refine hK.out _ _ hh5 (fun hHeld => ?_)
            clear hK
            obtain ⟨a5, n5, c5, rfl⟩ : ∃ a n c, v5 = .slice a n c := (by obtain ⟨a', c', e⟩ := ho5.row.slice; exact ⟨a', _, c', e⟩)
            have HE := Lib.hid (HF4.out.rule ho5 hb5 hg5)
            obtain ⟨q0, q1⟩ := HE.out.1.c2
            obtain ⟨r0, r1⟩ := HE.out.1.z2
            have hse := HE.out.1.1
            clear ho5 hb5 hg5
            try simp only [Act.put, List.setIfInBounds_toArray, List.set_cons_zero, List.set_cons_succ]
            refine takeH 6 49 (.pointer (some ⟨w.heap.size + 1 + 1, 1, none⟩)) calm_np rfl rfl (by kernel_rfl) (by kernel_rfl) (by kernel_rfl) (by rfl) (fun w hSw => by go_simp) hHeld ?_
            try simp only [Act.put, List.setIfInBounds_toArray, List.set_cons_zero, List.set_cons_succ]
            refine wpAnyH_ready (rs := [7]) (by kernel_rfl) (by simp) (AllReadyH.cons rfl (fun K hK => ?_) AllReadyH.nil)
            go_simp
            refine hK.out _ _ (hHeld.other (by have := HNEQ.out; omega) _ _) (fun hHeld => ?_)
            clear hK q0 q1 r0 r1
            try simp only [Act.put, List.setIfInBounds_toArray, List.set_cons_zero, List.set_cons_succ]
            refine wpAnyH_done (by kernel_rfl) ?_ _
            refine NoPanic.normal ?_
            go_wp2_with fail
            go_roundw
            case rel =>
              refine ⟨_, l ++ [z], by simp; omega, by simp, ?_, HE.out.2⟩
              intro y hy
              rcases List.mem_append.1 hy with h | h
              · exact HALL.out y h
              · obtain rfl := List.mem_singleton.1 h
                exact HZ18.out
            case measure => simp [RowKit.intOf]; omega
          · go_simp
            go_at_call 7
            refine (HC.out _).mono ?_
            rintro e W3 ⟨rfl, hz⟩
            have HF3 := Lib.hid ((HFA.out.below (dr _)).below hz)
            have hh3 := hHeld.below hz
            clear hz
            go_simp
            refine hK.out _ _ hh3 (fun hHeld => ?_)
            clear hK
            try simp only [Act.put, List.setIfInBounds_toArray, List.set_cons_zero, List.set_cons_succ]
            refine wpAnyH_ready (rs := [1, 4]) (by kernel_rfl) (by simp) (AllReadyH.cons rfl (fun K hK => ?_) (AllReadyH.cons rfl (fun K hK => ?_) AllReadyH.nil))
            · obtain ⟨o0, o1⟩ := HF3.out.2.2.1.c2
              go_simp
              refine hK.out _ _ hHeld (fun hHeld => ?_)
              clear hK o0 o1
              try simp only [Act.put, List.setIfInBounds_toArray, List.set_cons_zero, List.set_cons_succ]
              refine wpAnyH_ready (rs := [4]) (by kernel_rfl) (by simp) (AllReadyH.cons rfl (fun K hK => ?_) AllReadyH.nil)
              go_simp
              have ha4 := al W3 (.cells #[.string z.f, .string z.t, .int .i64 z.r, .int .i64 z.n, .int .i64 z.d] 27)
              have HF4 := Lib.hid (HF3.out.below ha4)
              have HONE := Lib.hid (GRow.one W3 z)
              refine hK.out _ _ (hHeld.below ha4) (fun hHeld => ?_)
              clear hK ha4
              try simp only [Act.put, List.setIfInBounds_toArray, List.set_cons_zero, List.set_cons_succ]
              refine wpAnyH_ready (rs := [5]) (by kernel_rfl) (by simp) (AllReadyH.cons rfl (fun K hK => ?_) AllReadyH.nil)
              have hws4 := HF4.out.2.2.2.2.2.2
              refine step_append_G_out rfl 48 rfl _ _ rfl (w.heap.size + 1 + 1 + 1) _ l rfl HF4.out.2.2.2.2.1 _ z rfl HONE.out (by omega) hws4 (fun v5 W5 ho5 hb5 hg5 => ?_)
              have hh5 := hHeld.kept hg5 HNE.out
              refine hK.out _ _ hh5 (fun hHeld => ?_)
              clear hK
              obtain ⟨a5, n5, c5, rfl⟩ : ∃ a n c, v5 = .slice a n c := (by obtain ⟨a', c', e⟩ := ho5.row.slice; exact ⟨a', _, c', e⟩)
              have HE := Lib.hid (HF4.out.rule ho5 hb5 hg5)
              obtain ⟨q0, q1⟩ := HE.out.1.c2
              obtain ⟨r0, r1⟩ := HE.out.1.z2
              have hse := HE.out.1.1
              clear ho5 hb5 hg5
              try simp only [Act.put, List.setIfInBounds_toArray, List.set_cons_zero, List.set_cons_succ]
              refine takeH 6 49 (.pointer (some ⟨w.heap.size + 1 + 1, 1, none⟩)) calm_np rfl rfl (by kernel_rfl) (by kernel_rfl) (by kernel_rfl) (by rfl) (fun w hSw => by go_simp) hHeld ?_
              try simp only [Act.put, List.setIfInBounds_toArray, List.set_cons_zero, List.set_cons_succ]
              refine wpAnyH_ready (rs := [7]) (by kernel_rfl) (by simp) (AllReadyH.cons rfl (fun K hK => ?_) AllReadyH.nil)
              go_simp
              refine hK.out _ _ (hHeld.other (by have := HNEQ.out; omega) _ _) (fun hHeld => ?_)
              clear hK q0 q1 r0 r1
              try simp only [Act.put, List.setIfInBounds_toArray, List.set_cons_zero, List.set_cons_succ]
              refine wpAnyH_done (by kernel_rfl) ?_ _
              refine NoPanic.normal ?_
              go_wp2_with fail
              go_roundw
              case rel =>
                refine ⟨_, l ++ [z], by simp; omega, by simp, ?_, HE.out.2⟩
                intro y hy
                rcases List.mem_append.1 hy with h | h
                · exact HALL.out y h
                · obtain rfl := List.mem_singleton.1 h
                  exact HZ18.out
              case measure => simp [RowKit.intOf]; omega
            · go_simp
              have ha4 := al W3 (.cells #[.string z.f, .string z.t, .int .i64 z.r, .int .i64 z.n, .int .i64 z.d] 27)
              have HF4 := Lib.hid (HF3.out.below ha4)
              have HONE := Lib.hid (GRow.one W3 z)
              refine hK.out _ _ (hHeld.below ha4) (fun hHeld => ?_)
              clear hK ha4
              try simp only [Act.put, List.setIfInBounds_toArray, List.set_cons_zero, List.set_cons_succ]
              refine wpAnyH_ready (rs := [1]) (by kernel_rfl) (by simp) (AllReadyH.cons rfl (fun K hK => ?_) AllReadyH.nil)
              obtain ⟨o0, o1⟩ := HF4.out.2.2.1.c2
              go_simp
              refine hK.out _ _ hHeld (fun hHeld => ?_)
              clear hK o0 o1
              try simp only [Act.put, List.setIfInBounds_toArray, List.set_cons_zero, List.set_cons_succ]
              refine wpAnyH_ready (rs := [5]) (by kernel_rfl) (by simp) (AllReadyH.cons rfl (fun K hK => ?_) AllReadyH.nil)
              have hws4 := HF4.out.2.2.2.2.2.2
              refine step_append_G_out rfl 48 rfl _ _ rfl (w.heap.size + 1 + 1 + 1) _ l rfl HF4.out.2.2.2.2.1 _ z rfl HONE.out (by omega) hws4 (fun v5 W5 ho5 hb5 hg5 => ?_)
              have hh5 := hHeld.kept hg5 HNE.out
              refine hK.out _ _ hh5 (fun hHeld => ?_)
              clear hK
              obtain ⟨a5, n5, c5, rfl⟩ : ∃ a n c, v5 = .slice a n c := (by obtain ⟨a', c', e⟩ := ho5.row.slice; exact ⟨a', _, c', e⟩)
              have HE := Lib.hid (HF4.out.rule ho5 hb5 hg5)
              obtain ⟨q0, q1⟩ := HE.out.1.c2
              obtain ⟨r0, r1⟩ := HE.out.1.z2
              have hse := HE.out.1.1
              clear ho5 hb5 hg5
              try simp only [Act.put, List.setIfInBounds_toArray, List.set_cons_zero, List.set_cons_succ]
              refine takeH 6 49 (.pointer (some ⟨w.heap.size + 1 + 1, 1, none⟩)) calm_np rfl rfl (by kernel_rfl) (by kernel_rfl) (by kernel_rfl) (by rfl) (fun w hSw => by go_simp) hHeld ?_
              try simp only [Act.put, List.setIfInBounds_toArray, List.set_cons_zero, List.set_cons_succ]
              refine wpAnyH_ready (rs := [7]) (by kernel_rfl) (by simp) (AllReadyH.cons rfl (fun K hK => ?_) AllReadyH.nil)
              go_simp
              refine hK.out _ _ (hHeld.other (by have := HNEQ.out; omega) _ _) (fun hHeld => ?_)
              clear hK q0 q1 r0 r1
              try simp only [Act.put, List.setIfInBounds_toArray, List.set_cons_zero, List.set_cons_succ]
              refine wpAnyH_done (by kernel_rfl) ?_ _
              refine NoPanic.normal ?_
              go_wp2_with fail
              go_roundw
              case rel =>
                refine ⟨_, l ++ [z], by simp; omega, by simp, ?_, HE.out.2⟩
                intro y hy
                rcases List.mem_append.1 hy with h | h
                · exact HALL.out y h
                · obtain rfl := List.mem_singleton.1 h
                  exact HZ18.out
              case measure => simp [RowKit.intOf]; omega
        · obtain ⟨va, vn, vc, rfl⟩ : ∃ a n c, v = .slice a n c := (by obtain ⟨a', c', e⟩ := hF.2.2.2.2.1.row.slice; exact ⟨a', _, c', e⟩)
          obtain ⟨o0, o1⟩ := hF.2.2.1.c2
          obtain ⟨q0, q1⟩ := hF.2.1.c2
          obtain ⟨r0, r1⟩ := hF.2.1.z2
          have hs1 := hF.2.1.1
          have hs2 := hF.2.2.1.1
          have HEND := Lib.hid (few_end HF.out)
          clear hF
          go_wp2_with fail
          exact bodyPost_ret (by simp [results, Try.results6, go_sem, q0, q1]) rfl ⟨_, _, s, l, rfl, ⟨by omega, by omega, HAL.out, HALL.out⟩, HEND.out.1, HEND.out.2.1, HEND.out.2.2.1, HEND.out.2.2.2⟩
end Go.Proofs.Ythhadeohabkleaa.Goods
