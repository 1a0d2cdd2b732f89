/-
  Proved: for any goods and two rules the law GoodsStay returns true: what may be stays such; rules put in either order make the same goods; each that is put is among those of its name, and alone of its rank. No condition.
-/
import Derived.Test.YthhadeohabkleaaRows
import Derived.Test.YthhadeohabkleaaGArg
namespace Go.Proofs.Ythhadeohabkleaa.goodsStay
open Go.ChangeShapes Go.WideShapes Go.ChangeAt Go.RowKit Go.Lib Go.Proofs.Ythhadeohabkleaa.Goods
open Go.ChangeMaps (open_string shut_string)
set_option linter.unusedVariables false

theorem own : ownKnob Try.prog.godebug = none := by kernel_rfl
theorem laidOut : laidOutB Try.prog = true := by kernel_rfl

/-- The three arguments in their boxes, and what they are. -/
def LawB (w : World) (g a b : List Value) (W : World) : Prop := Box w.heap.size g W ∧ Box (w.heap.size + 1) a W ∧ Box (w.heap.size + 1 + 1) b W ∧ Below w.heap.size w W
theorem LawB.below {w W W' : World} {g a b : List Value} (h : LawB w g a b W) (hb : Below W.heap.size W W') : LawB w g a b W' := ⟨h.1.below hb, h.2.1.below hb, h.2.2.1.below hb, below_trans h.2.2.2 hb⟩
theorem LawB.made (w : World) (g a b : List Value) : LawB w g a b (((w.alloc (.cells g.toArray 25)).alloc (.cells a.toArray 27)).alloc (.cells b.toArray 27)) := by
  have h1 := (Box.made w g 25).below (below_trans (al _ (.cells a.toArray 27)) (al _ (.cells b.toArray 27)))
  have h2 := (Box.made (w.alloc (.cells g.toArray 25)) a 27).below (al _ (.cells b.toArray 27))
  have h3 := Box.made ((w.alloc (.cells g.toArray 25)).alloc (.cells a.toArray 27)) b 27
  simp only [World.size_alloc] at h2 h3
  exact ⟨h1, h2, h3, below_trans (below_trans (al _ _) (al _ _)) (al _ _)⟩
/-- The world behind the first statement's stores. -/
def stW (w W : World) (v u : Value) (x y : Sb) : World :=
  (((((((((((W.setCell ⟨w.heap.size, 0, none⟩ v).setCell ⟨w.heap.size, 1, none⟩ u).setCell ⟨w.heap.size + 1, 0, none⟩ (.string x.f)).setCell ⟨w.heap.size + 1, 1, none⟩ (.string x.t)).setCell ⟨w.heap.size + 1, 2, none⟩ (.int .i64 x.r)).setCell ⟨w.heap.size + 1, 3, none⟩ (.int .i64 x.n)).setCell ⟨w.heap.size + 1, 4, none⟩ (.int .i64 x.d)).setCell ⟨w.heap.size + 1 + 1, 0, none⟩ (.string y.f)).setCell ⟨w.heap.size + 1 + 1, 1, none⟩ (.string y.t)).setCell ⟨w.heap.size + 1 + 1, 2, none⟩ (.int .i64 y.r)).setCell ⟨w.heap.size + 1 + 1, 3, none⟩ (.int .i64 y.n)).setCell ⟨w.heap.size + 1 + 1, 4, none⟩ (.int .i64 y.d)
theorem box_two_other {b c : Nat} {vs : List Value} {W : World} (h : Box b vs W) (hn : b ≠ c) (u0 u1 : Value) : Box b vs ((W.setCell ⟨c, 0, none⟩ u0).setCell ⟨c, 1, none⟩ u1) := (h.other hn 0 u0).other hn 1 u1
theorem box_five_other {b c : Nat} {vs : List Value} {W : World} (h : Box b vs W) (hn : b ≠ c) (u0 u1 u2 u3 u4 : Value) : Box b vs (((((W.setCell ⟨c, 0, none⟩ u0).setCell ⟨c, 1, none⟩ u1).setCell ⟨c, 2, none⟩ u2).setCell ⟨c, 3, none⟩ u3).setCell ⟨c, 4, none⟩ u4) := ((((h.other hn 0 u0).other hn 1 u1).other hn 2 u2).other hn 3 u3).other hn 4 u4
theorem st_law {w W : World} {g0 g1 a0 a1 a2 a3 a4 b0 b1 b2 b3 b4 : Value} (h : LawB w [g0, g1] [a0, a1, a2, a3, a4] [b0, b1, b2, b3, b4] W) (v u : Value) (x y : Sb) : LawB w [v, u] (sl x) (sl y) (stW w W v u x y) := by
  obtain ⟨h1, h2, h3, h4⟩ := h
  refine ⟨?_, ?_, ?_, ?_⟩
  · exact box_five_other (box_five_other (h1.two v u) (by omega) _ _ _ _ _) (by omega) _ _ _ _ _
  · exact box_five_other ((box_two_other h2 (by omega) _ _).five _ _ _ _ _) (by omega) _ _ _ _ _
  · exact (box_five_other (box_two_other h3 (by omega) _ _) (by omega) _ _ _ _ _).five _ _ _ _ _
  · exact below_five (b := w.heap.size + 1 + 1) _ _ _ _ _ (below_five (b := w.heap.size + 1) _ _ _ _ _ (below_two (b := w.heap.size) _ _ h4 (Nat.le_refl _)) (by omega)) (by omega)
theorem tr2 {b : Nat} {v u0 u1 : Value} {l : List ByteArray} {W : World} (h : TRow W v l) (hb : ∀ g, v.ownBlock = some g → g ≠ b) : TRow ((W.setCell ⟨b, 0, none⟩ u0).setCell ⟨b, 1, none⟩ u1) v l := (h.apart hb).apart hb
theorem tr5 {b : Nat} {v u0 u1 u2 u3 u4 : Value} {l : List ByteArray} {W : World} (h : TRow W v l) (hb : ∀ g, v.ownBlock = some g → g ≠ b) : TRow (((((W.setCell ⟨b, 0, none⟩ u0).setCell ⟨b, 1, none⟩ u1).setCell ⟨b, 2, none⟩ u2).setCell ⟨b, 3, none⟩ u3).setCell ⟨b, 4, none⟩ u4) v l := ((((h.apart hb).apart hb).apart hb).apart hb).apart hb
theorem gr2 {b : Nat} {v u0 u1 : Value} {l : List Sb} {W : World} (h : GRow W v l) (hb : ∀ g, v.ownBlock = some g → g ≠ b) : GRow ((W.setCell ⟨b, 0, none⟩ u0).setCell ⟨b, 1, none⟩ u1) v l := (h.apart hb).apart hb
theorem gr5 {b : Nat} {v u0 u1 u2 u3 u4 : Value} {l : List Sb} {W : World} (h : GRow W v l) (hb : ∀ g, v.ownBlock = some g → g ≠ b) : GRow (((((W.setCell ⟨b, 0, none⟩ u0).setCell ⟨b, 1, none⟩ u1).setCell ⟨b, 2, none⟩ u2).setCell ⟨b, 3, none⟩ u3).setCell ⟨b, 4, none⟩ u4) v l := ((((h.apart hb).apart hb).apart hb).apart hb).apart hb
theorem st_rows {w W : World} {v u : Value} {s : List ByteArray} {l : List Sb} (h : GGood W v u s l) (hv : ∀ g, v.ownBlock = some g → w.heap.size + 1 + 1 + 1 ≤ g) (hu : ∀ g, u.ownBlock = some g → w.heap.size + 1 + 1 + 1 ≤ g) (x y : Sb) : GGood (stW w W v u x y) v u s l :=
  ⟨tr5 (tr5 (tr2 h.1 (fun g hg => by have := hv g hg; omega)) (fun g hg => by have := hv g hg; omega)) (fun g hg => by have := hv g hg; omega),
   gr5 (gr5 (gr2 h.2 (fun g hg => by have := hu g hg; omega)) (fun g hg => by have := hu g hg; omega)) (fun g hg => by have := hu g hg; omega)⟩
theorem Rule_any {v u : Value} {s : List ByteArray} {l : List Sb} {w : World} (h : GGood w v u s l) (hs : Short s l) (x : Sb) (hx : small x) : Calls Try.prog 9 #[.agg #[v, u], sv x] w (fun e w' => ∃ v' u' s' l', e = .returned (.tuple #[.agg #[v', u'], .int .i64 (ruleE s l x)]) ∧ GGood w' v' u' s' l' ∧ Below w.heap.size w w' ∧ (ruleE s l x = 0 → s' = s ∧ l' = putR x l)) := by
  by_cases he : ruleE s l x = 0
  · refine (Rule_yes h hs x hx he).mono ?_
    rintro e w' ⟨v', u', rfl, hg, hb⟩
    exact ⟨v', u', s, _, by rw [he], hg, hb, fun _ => ⟨rfl, rfl⟩⟩
  · refine (Rule_no h hs x hx he).mono ?_
    rintro e w' ⟨v', u', rfl, hg, hb⟩
    exact ⟨v', u', [], [], rfl, hg, hb, fun e => absurd e he⟩
theorem short_put {s : List ByteArray} {l : List Sb} {x : Sb} (h : Short s l) (hl : l.length ≤ 100) (hx : small x) : Short s (putR x l) :=
  ⟨h.1, by unfold putR; rw [put_length]; omega, h.2.2.1, fun y hy => by rcases put_mem.1 hy with rfl | hy; exact hx; exact h.2.2.2 y hy⟩

set_option maxRecDepth 100000 in
set_option maxHeartbeats 4000000 in
theorem walk0 (va vb : Value) (a : Sb) (ha : Came a) (b : Sb) (hb : Came b) (w : World) (hva : ArgT w va) (hvb : ArgG w vb) :
    Calls Try.prog 5 #[.agg #[va, vb], sv a, sv b] w (BoolB true w) := by
  obtain ⟨la, hla, hlas⟩ := hva
  obtain ⟨lb, hlb, hlbs⟩ := hvb
  have hfe := fun W (hW : Below w.heap.size w W) => few_any ⟨la, hla.below hW, hlas⟩ ⟨lb, hlb.below hW, hlbs⟩
  obtain ⟨aa, ca, rfl⟩ := hla.slice
  obtain ⟨ab, cb, rfl⟩ := hlb.slice
  have hca := fun W => cut_any a ha.1 ha.2.1 W
  have hcb := fun W => cut_any b hb.1 hb.2.1 W
  have hsx := cutR_small a
  have hsy := cutR_small b
  generalize cutR a = x at hca hsx
  generalize cutR b = y at hcb hsy
  unfold SubB sv at hca hcb
  unfold sv
  have HFE := Lib.hid hfe
  have HCA := Lib.hid hca
  have HCB := Lib.hid hcb
  have HSX := Lib.hid hsx
  have HSY := Lib.hid hsy
  have HL := Lib.hid (LawB.made w [.slice aa la.length ca, .slice ab lb.length cb] [.string a.f, .string a.t, .int .i64 a.r, .int .i64 a.n, .int .i64 a.d] [.string b.f, .string b.t, .int .i64 b.r, .int .i64 b.n, .int .i64 b.d])
  clear hla hlas hlb hlbs hfe hca hcb hsx hsy ha hb
  generalize la.length = na at *
  generalize lb.length = nb at *
  go_enter Try.func5, Try.ntmps5
  go_upto_region 1 with (fail)
  generalize ((w.alloc (.cells #[.slice aa na ca, .slice ab nb cb] 25)).alloc (.cells #[.string a.f, .string a.t, .int .i64 a.r, .int .i64 a.n, .int .i64 a.d] 27)).alloc (.cells #[.string b.f, .string b.t, .int .i64 b.r, .int .i64 b.n, .int .i64 b.d] 27) = W at *
  go_cut [] from 20 to 25 (fun wx => ∃ v u s l, LawB w [v, u] (sl x) (sl y) wx ∧ GGood wx v u s l ∧ Tiny s l)
  case first =>
    refine wp_region_noPanic ?_
    refine till_region (fun W' => LawB w [.slice aa na ca, .slice ab nb cb] [.string a.f, .string a.t, .int .i64 a.r, .int .i64 a.n, .int .i64 a.d] [.string b.f, .string b.t, .int .i64 b.r, .int .i64 b.n, .int .i64 b.d] W') (fun j => decide (6 ≤ j)) (by kernel_rfl) ?_
    have hS := HL.out.below (dr W)
    try simp only [Act.put, List.setIfInBounds_toArray, List.set_cons_zero, List.set_cons_succ]
    refine takeT 0 20 [6, 7, 8] (.agg #[.slice aa na ca, .slice ab nb cb]) calm_np rfl rfl (by kernel_rfl) (by rfl) (by kernel_rfl) (by kernel_rfl) (by kernel_rfl) (by kernel_rfl) (by rfl) (fun w hSw => by obtain ⟨c0, c1⟩ := hSw.1.c2; go_simp) hS ?_
    try simp only [Act.put, List.setIfInBounds_toArray, List.set_cons_zero, List.set_cons_succ]
    refine takeT 2 22 [3, 5, 6, 7, 8] (.agg #[.string a.f, .string a.t, .int .i64 a.r, .int .i64 a.n, .int .i64 a.d]) calm_np rfl rfl (by kernel_rfl) (by rfl) (by kernel_rfl) (by kernel_rfl) (by kernel_rfl) (by kernel_rfl) (by rfl) (fun w hSw => by obtain ⟨c0, c1, c2, c3, c4⟩ := hSw.2.1.c5; go_simp) hS ?_
    try simp only [Act.put, List.setIfInBounds_toArray, List.set_cons_zero, List.set_cons_succ]
    refine takeT 4 24 [5, 6, 7, 8] (.agg #[.string b.f, .string b.t, .int .i64 b.r, .int .i64 b.n, .int .i64 b.d]) calm_np rfl rfl (by kernel_rfl) (by rfl) (by kernel_rfl) (by kernel_rfl) (by kernel_rfl) (by kernel_rfl) (by rfl) (fun w hSw => by obtain ⟨c0, c1, c2, c3, c4⟩ := hSw.2.2.1.c5; go_simp) hS ?_
    try simp only [Act.put, List.setIfInBounds_toArray, List.set_cons_zero, List.set_cons_succ]
    refine till_ready (rs := [1]) (by kernel_rfl) (by simp) (Each.cons rfl (fun K hK => ?_) Each.nil)
    go_simp
    go_at_call 6
    refine (HFE.out _ hS.2.2.2).mono ?_
    rintro e V1 ⟨v, u, s, l, rfl, htiny, hgood, hz, hfv, hfu⟩
    obtain ⟨av, nv, cv, rfl⟩ : ∃ a n c, v = .slice a n c := (by obtain ⟨a', c', e⟩ := hgood.1.slice; exact ⟨a', _, c', e⟩)
    obtain ⟨au, nu, cu, rfl⟩ : ∃ a n c, u = .slice a n c := (by obtain ⟨a', c', e⟩ := hgood.2.slice; exact ⟨a', _, c', e⟩)
    have hsz := hS.2.2.1.1
    have hS1 := hS.below hz
    go_simp
    refine hK.out _ _ (fun _ => hS1) ?_
    clear hK
    try simp only [Act.put, List.setIfInBounds_toArray, List.set_cons_zero, List.set_cons_succ]
    refine till_ready (rs := [3]) (by kernel_rfl) (by simp) (Each.cons rfl (fun K hK => ?_) Each.nil)
    go_simp
    go_at_call 7
    refine (HCA.out _).mono ?_
    rintro e V2 ⟨rfl, hz2⟩
    have hS2 := hS1.below hz2
    go_simp
    refine hK.out _ _ (fun _ => hS2) ?_
    clear hK
    try simp only [Act.put, List.setIfInBounds_toArray, List.set_cons_zero, List.set_cons_succ]
    refine till_ready (rs := [5]) (by kernel_rfl) (by simp) (Each.cons rfl (fun K hK => ?_) Each.nil)
    go_simp
    go_at_call 7
    refine (HCB.out _).mono ?_
    rintro e V3 ⟨rfl, hz3⟩
    have hS3 := hS2.below hz3
    go_simp
    refine hK.out _ _ (fun _ => hS3) ?_
    clear hK
    have HLW := Lib.hid (st_law hS3 (.slice av nv cv) (.slice au nu cu) x y)
    have HG := Lib.hid (st_rows (w := w) (hgood.below (below_trans hz2 hz3)) (fun g hg => by have := hfv g hg; omega) (fun g hg => by have := hfu g hg; omega) x y)
    obtain ⟨c0, c1⟩ := hS3.1.c2
    obtain ⟨f0, f1⟩ := hS3.1.z2
    have hs0 := hS3.1.1
    obtain ⟨d0, d1, d2, d3, d4⟩ := hS3.2.1.c5
    obtain ⟨e0, e1, e2, e3, e4⟩ := hS3.2.1.z5
    have hs1 := hS3.2.1.1
    obtain ⟨i0, i1, i2, i3, i4⟩ := hS3.2.2.1.c5
    obtain ⟨j0, j1, j2, j3, j4⟩ := hS3.2.2.1.z5
    have hs2 := hS3.2.2.1.1
    try simp only [Act.put, List.setIfInBounds_toArray, List.set_cons_zero, List.set_cons_succ]
    refine till_ready (rs := [6]) (by kernel_rfl) (by simp) (Each.cons rfl (fun K hK => ?_) Each.nil)
    go_simp
    refine hK.out _ _ (fun h => by cases h) ?_
    clear hK
    try simp only [Act.put, List.setIfInBounds_toArray, List.set_cons_zero, List.set_cons_succ]
    refine till_ready (rs := [7]) (by kernel_rfl) (by simp) (Each.cons rfl (fun K hK => ?_) Each.nil)
    go_simp
    refine hK.out _ _ (fun h => by cases h) ?_
    clear hK
    try simp only [Act.put, List.setIfInBounds_toArray, List.set_cons_zero, List.set_cons_succ]
    refine till_ready (rs := [8]) (by kernel_rfl) (by simp) (Each.cons rfl (fun K hK => ?_) Each.nil)
    go_simp
    refine hK.out _ _ (fun h => by cases h) ?_
    clear hK
    try simp only [Act.put, List.setIfInBounds_toArray, List.set_cons_zero, List.set_cons_succ]
    refine till_done (by kernel_rfl) ?_ _
    refine NoPanic.normal ?_
    go_wp2_with fail
    go_meet
    exact ⟨_, _, s, l, HLW.out, HG.out, htiny⟩
  case rest =>
  obtain ⟨v, u, s, l, hlw, hg, htiny⟩ := hcut
  have hsh := htiny.short
  have hl18 := htiny.2.1
  obtain ⟨av, nv, cv, rfl⟩ : ∃ a n c, v = .slice a n c := (by obtain ⟨a', c', e⟩ := hg.1.slice; exact ⟨a', _, c', e⟩)
  obtain ⟨au, nu, cu, rfl⟩ : ∃ a n c, u = .slice a n c := (by obtain ⟨a', c', e⟩ := hg.2.slice; exact ⟨a', _, c', e⟩)
  have hrx := fun W (hW : Below wc.heap.size wc W) => Rule_any (hg.below hW) hsh x HSX.out
  have hry := fun W (hW : Below wc.heap.size wc W) => Rule_any (hg.below hW) hsh y HSY.out
  unfold sv at hrx hry
  unfold sl at hlw
  have HRX := Lib.hid hrx
  have HRY := Lib.hid hry
  have HL := Lib.hid hlw
  have HAL := Lib.hid (fun W => alive_any W)
  have HRW := Lib.hid (Below.refl wc.heap.size wc)
  clear hrx hry hlw hg HFE HCA HCB htiny
  obtain ⟨x0, x1⟩ := HL.out.1.c2
  have hs0 := HL.out.1.1
  obtain ⟨y0, y1, y2, y3, y4⟩ := HL.out.2.1.c5
  have hs1 := HL.out.2.1.1
  by_cases he : ruleE s l x = 0
  · have HALONE := Lib.hid (alone he)
    have HSTAY := Lib.hid (rule_stays he)
    have HTURN := Lib.hid (fun (h : ruleE s (putR x l) y = 0) => rule_turned he h)
    have hxin : hasB s x.f = true := by
      have := (rule_in.1 he).2.2.1
      unfold amongB at this
      simp only [Bool.and_eq_true] at this
      exact this.1
    have hsh2 := short_put hsh (by omega) HSX.out
    have HE0 := Lib.hid he
    have HE1 : Hid (ruleE s l x = 0) := HE0
    clear he
    go_wp2_with fail
    (with_reducible refine (HRX.out _ HRW.out).mono ?_)
    rintro e w2 ⟨v2, u2, s2, l2, rfl, hg2, hz2, heq⟩
    rw [HE0.out]
    have hg2 : GGood w2 v2 u2 s (putR x l) := by
      obtain ⟨e1, e2⟩ := heq HE0.out
      rw [← e1, ← e2]
      exact hg2
    clear heq
    obtain ⟨av2, nv2, cv2, rfl⟩ : ∃ a n c, v2 = .slice a n c := (by obtain ⟨a', c', e⟩ := hg2.1.slice; exact ⟨a', _, c', e⟩)
    obtain ⟨au2, nu2, cu2, rfl⟩ : ∃ a n c, u2 = .slice a n c := (by obtain ⟨a', c', e⟩ := hg2.2.slice; exact ⟨a', _, c', e⟩)
    have hf2 := al w2 (.cells #[.slice av2 nv2 cv2, .slice au2 nu2 cu2] 25)
    have hbx2 := Box.made w2 [.slice av2 nv2 cv2, .slice au2 nu2 cu2] 25
    have HL2 := Lib.hid ((HL.out.below hz2).below hf2)
    have HW2 := Lib.hid (below_trans hz2 hf2)
    have HG2 := Lib.hid (hg2.below hf2)
    have HX2 := Lib.hid hbx2
    clear hz2 hg2 hf2 hbx2
    go_upto_region 5 with (fail)
    generalize hgx : w2.heap.size = gx at *
    generalize w2.alloc (.cells #[.slice av2 nv2 cv2, .slice au2 nu2 cu2] 25) = W2 at *
    clear hgx x0 x1 hs0 y0 y1 y2 y3 y4 hs1
    have hfor := For_yes HG2.out hsh2 x.f HSTAY.out hxin
    have HFOR := Lib.hid hfor
    have HR2 := Lib.hid (fun W (hW : Below W2.heap.size W2 W) => HSTAY.out ▸ Right_any (HG2.out.below hW) hsh2)
    have hry2 := fun W (hW : Below W2.heap.size W2 W) => Rule_any (HG2.out.below hW) hsh2 y HSY.out
    unfold sv at hry2
    have HRY2 := Lib.hid hry2
    have HSH2 := Lib.hid hsh2
    clear hfor hry2 hsh2 hxin
    obtain ⟨x0, x1⟩ := HX2.out.c2
    have hs0 := HX2.out.1
    obtain ⟨y0, y1, y2, y3, y4⟩ := HL2.out.2.1.c5
    have hs1 := HL2.out.2.1.1
    go_wp2_with fail
    (with_reducible refine HFOR.out.mono ?_)
    rintro e w3 ⟨v3, rfl, hg3, hz3⟩
    obtain ⟨aF, cF, rfl⟩ := hg3.slice
    have HL3 := Lib.hid (HL2.out.below hz3)
    have HW3 := Lib.hid (below_trans HW2.out hz3)
    have HX3 := Lib.hid (HX2.out.below hz3)
    have HZ3 := Lib.hid hz3
    have hcap3 := hg3.cap.2
    have HG3 := Lib.hid hg3
    have hFl : (forL x.f (putR x l)).length ≤ 1000 := by
      have h1 := for_len x.f (putR x l) (putR x l).length
      rw [List.take_length] at h1
      have h2 := HSH2.out.2.1
      omega
    generalize forL x.f (putR x l) = F at *
    clear hz3 hg3 HFOR x0 x1 hs0 y0 y1 y2 y3 y4 hs1
    go_wp2_with fail
    go_loopw [11, 13, 44] (fun m _ i wr => ∃ k : Nat, k ≤ F.length ∧ i = .int .i64 k ∧ m = .int .i64 (cntL x.r (F.take k)) ∧ Below w3.heap.size w3 wr) (fun _ _ i _ => F.length - (RowKit.intOf i).toNat)
    case atStart => exact ⟨0, Nat.zero_le _, rfl, rfl, Below.refl _ _⟩
    case round =>
      obtain ⟨k, hk, rfl, rfl, hbe⟩ := hrel
      have HBE := Lib.hid hbe
      have hcl := cnt_len x.r F k
      clear hbe
      obtain ⟨y0, y1, y2, y3, y4⟩ := (HL3.out.below HBE.out).2.1.c5
      have hs1 := (HL3.out.below HBE.out).2.1.1
      by_cases hlt : k < F.length
      · obtain ⟨bb, off, rfl, _, _, hbb, k0, k1, k2, k3, k4⟩ := (HG3.out.below HBE.out).at hlt
        have HY := Lib.hid (fun e => cnt_yes (r := x.r) hlt e)
        have HN := Lib.hid (fun e => cnt_no (r := x.r) hlt e)
        have HA := Lib.hid (HALONE.out.1 (F[k]'hlt) (List.getElem_mem hlt))
        have ha := al wr (.cells (sl F[k]).toArray 27)
        have hbx := Box.made wr (sl F[k]) 27
        unfold sl at ha hbx
        by_cases hr : F[k].r = x.r
        · have e := HA.out hr
          have HY2 := Lib.hid (HY.out hr)
          rw [e] at k0 k1 k2 k3 k4 ha hbx
          have HA2 := Lib.hid (below_trans HBE.out ha)
          obtain ⟨z0, z1, z2, z3, z4⟩ := ((HL3.out.below HBE.out).below ha).2.1.c5
          have hs2 := ((HL3.out.below HBE.out).below ha).2.1.1
          clear hr e HY HN HA ha hbx
          go_wp2_with fail
          go_roundw
          case rel => exact ⟨k + 1, by omega, by go_num, by rw [HY2.out]; go_num, HA2.out⟩
          case measure => simp [RowKit.intOf]; omega
        · have e1 : (F[k].r == x.r) = false := by simpa using hr
          have HN2 := Lib.hid (HN.out hr)
          have HA2 := Lib.hid (below_trans HBE.out ha)
          obtain ⟨z0, z1, z2, z3, z4⟩ := ((HL3.out.below HBE.out).below ha).2.1.c5
          have hs2 := ((HL3.out.below HBE.out).below ha).2.1.1
          clear hr HY HN HA ha hbx
          go_wp2_with fail
          go_roundw
          case rel => exact ⟨k + 1, by omega, by go_num, by rw [HN2.out], HA2.out⟩
          case measure => simp [RowKit.intOf]; omega
      · obtain rfl : k = F.length := by omega
        have hm : cntL x.r (F.take F.length) = 1 := by rw [List.take_length]; exact HALONE.out.2
        rw [hm]
        have HL4 := Lib.hid (HL3.out.below HBE.out)
        have HX4 := Lib.hid (HX3.out.below HBE.out)
        have HZ4 := Lib.hid (below_trans HZ3.out HBE.out)
        have HW4 := Lib.hid (below_trans HW3.out HBE.out)
        clear hm hcl y0 y1 y2 y3 y4 hs1 HALONE HG3 HL3 HX3 HZ3 HW3 HBE hFl
        obtain ⟨x0, x1⟩ := HX4.out.c2
        have hs0 := HX4.out.1
        go_wp2_with fail
        (with_reducible refine (HR2.out _ HZ4.out).mono ?_)
        rintro e w4 ⟨rfl, hz⟩
        have HL5 := Lib.hid (HL4.out.below hz)
        have HX5 := Lib.hid (HX4.out.below hz)
        have HZ5 := Lib.hid (below_trans HZ4.out hz)
        have HW5 := Lib.hid (below_trans HW4.out hz)
        clear hz x0 x1 hs0 HL4 HX4 HZ4 HW4
        go_wp2_with fail
        (with_reducible refine (HAL.out _).mono ?_)
        rintro e w5 ⟨rfl, hz⟩
        have HL6 := Lib.hid (HL5.out.below hz)
        have HX6 := Lib.hid (HX5.out.below hz)
        have HZ6 := Lib.hid (below_trans HZ5.out hz)
        have HW6 := Lib.hid (below_trans HW5.out hz)
        clear hz HL5 HX5 HZ5 HW5
        obtain ⟨x0, x1⟩ := HX6.out.c2
        have hs0 := HX6.out.1
        obtain ⟨y0, y1, y2, y3, y4⟩ := HL6.out.2.2.1.c5
        have hs1 := HL6.out.2.2.1.1
        go_wp2_with fail
        (with_reducible refine (HRY2.out _ HZ6.out).mono ?_)
        rintro e w6 ⟨v6, u6', s6, l6, rfl, hg6, hz, hq6⟩
        obtain ⟨av6, nv6, cv6, rfl⟩ : ∃ a n c, v6 = .slice a n c := (by obtain ⟨a', c', e⟩ := hg6.1.slice; exact ⟨a', _, c', e⟩)
        obtain ⟨au6, nu6, cu6, rfl⟩ : ∃ a n c, u6' = .slice a n c := (by obtain ⟨a', c', e⟩ := hg6.2.slice; exact ⟨a', _, c', e⟩)
        have hf6 := al w6 (.cells #[.slice av6 nv6 cv6, .slice au6 nu6 cu6] 25)
        have hbx6 := Box.made w6 [.slice av6 nv6 cv6, .slice au6 nu6 cu6] 25
        have HL7 := Lib.hid ((HL6.out.below hz).below hf6)
        have HW7 := Lib.hid (below_trans (below_trans HW6.out hz) hf6)
        have HG6 := Lib.hid (hg6.below hf6)
        have HX7 := Lib.hid hbx6
        have HQ6 := Lib.hid hq6
        clear hq6 hz hg6 hf6 hbx6 x0 x1 hs0 y0 y1 y2 y3 y4 hs1 HL6 HX6 HZ6 HW6
        go_upto_region 18 with (fail)
        generalize hgx : w6.heap.size = gy at *
        generalize w6.alloc (.cells #[.slice av6 nv6 cv6, .slice au6 nu6 cu6] 25) = W7 at *
        clear hgx
        obtain ⟨x0, x1⟩ := HL7.out.1.c2
        have hs0 := HL7.out.1.1
        obtain ⟨y0, y1, y2, y3, y4⟩ := HL7.out.2.2.1.c5
        have hs1 := HL7.out.2.2.1.1
        go_wp2_with fail
        (with_reducible refine (HRY.out _ HW7.out).mono ?_)
        rintro e w8 ⟨v8, u8', s8, l8, rfl, hg8, hz, hq8⟩
        obtain ⟨av8, nv8, cv8, rfl⟩ : ∃ a n c, v8 = .slice a n c := (by obtain ⟨a', c', e⟩ := hg8.1.slice; exact ⟨a', _, c', e⟩)
        obtain ⟨au8, nu8, cu8, rfl⟩ : ∃ a n c, u8' = .slice a n c := (by obtain ⟨a', c', e⟩ := hg8.2.slice; exact ⟨a', _, c', e⟩)
        have hf8 := al w8 (.cells #[.slice av8 nv8 cv8, .slice au8 nu8 cu8] 25)
        have hbx8 := Box.made w8 [.slice av8 nv8 cv8, .slice au8 nu8 cu8] 25
        have HL8 := Lib.hid ((HL7.out.below hz).below hf8)
        have HW8 := Lib.hid (below_trans (below_trans HW7.out hz) hf8)
        have HG68 := Lib.hid ((HG6.out.below hz).below hf8)
        have HX78 := Lib.hid ((HX7.out.below hz).below hf8)
        have HG8 := Lib.hid (hg8.below hf8)
        have HX8 := Lib.hid hbx8
        have HQ8 := Lib.hid hq8
        clear hq8 hz hg8 hf8 hbx8 x0 x1 hs0 y0 y1 y2 y3 y4 hs1 HL7 HX7 HG6 HW7
        go_upto_region 19 with (fail)
        generalize hgx : w8.heap.size = gz at *
        generalize w8.alloc (.cells #[.slice av8 nv8 cv8, .slice au8 nu8 cu8] 25) = W8 at *
        clear hgx
        by_cases he6 : ruleE s (putR x l) y = 0
        · obtain ⟨t1, t2, t3⟩ := HTURN.out he6
          obtain ⟨i1, i2⟩ := HQ6.out he6
          rw [i1, i2] at HG68
          obtain ⟨i3, i4⟩ := HQ8.out t1
          rw [i3, i4] at HG8
          clear i1 i2 i3 i4
          have hsh8 := short_put hsh (by omega) HSY.out
          have hrule := Rule_any HG8.out hsh8 x HSX.out
          have HT2 := Lib.hid t2
          unfold sv at hrule
          have HRULE := Lib.hid hrule
          have HT3 := Lib.hid t3
          have HSH8 := Lib.hid hsh8
          rw [he6, t1]
          clear hrule t1 t2 t3 he6 HQ6 HQ8 hsh8 HTURN
          obtain ⟨x0, x1⟩ := HX8.out.c2
          have hs0 := HX8.out.1
          obtain ⟨y0, y1, y2, y3, y4⟩ := HL8.out.2.1.c5
          have hs1 := HL8.out.2.1.1
          go_wp2_with fail
          (with_reducible refine HRULE.out.mono ?_)
          rintro e w9 ⟨v9, u9', s9, l9, rfl, hg9, hz, hq9⟩
          obtain ⟨i1, i2⟩ := hq9 HT2.out
          rw [i1, i2] at hg9
          rw [HT2.out]
          clear i1 i2
          obtain ⟨av9, nv9, cv9, rfl⟩ : ∃ a n c, v9 = .slice a n c := (by obtain ⟨a', c', e⟩ := hg9.1.slice; exact ⟨a', _, c', e⟩)
          obtain ⟨au9, nu9, cu9, rfl⟩ : ∃ a n c, u9' = .slice a n c := (by obtain ⟨a', c', e⟩ := hg9.2.slice; exact ⟨a', _, c', e⟩)
          have hf9 := al w9 (.cells #[.slice av9 nv9 cv9, .slice au9 nu9 cu9] 25)
          have hbx9 := Box.made w9 [.slice av9 nv9 cv9, .slice au9 nu9 cu9] 25
          have HB9 := Lib.hid (below_trans (below_trans HL8.out.2.2.2 hz) hf9)
          have HG9 := Lib.hid (hg9.below hf9)
          have HG69 := Lib.hid ((HG68.out.below hz).below hf9)
          have HX69 := Lib.hid ((HX78.out.below hz).below hf9)
          have HX9 := Lib.hid hbx9
          clear hq9 hz hg9 hf9 hbx9 x0 x1 hs0 y0 y1 y2 y3 y4 hs1
          go_upto_region 22 with (fail)
          generalize hgx : w9.heap.size = gw at *
          generalize w9.alloc (.cells #[.slice av9 nv9 cv9, .slice au9 nu9 cu9] 25) = W9 at *
          clear hgx
          have hg9 := HG9.out
          rw [HT3.out] at hg9
          have HLK := Lib.hid (Like_yes HG69.out hg9)
          clear hg9
          obtain ⟨x0, x1⟩ := HX69.out.c2
          have hs0 := HX69.out.1
          obtain ⟨q0, q1⟩ := HX9.out.c2
          have hs1 := HX9.out.1
          go_wp2_with fail
          (with_reducible refine HLK.out.mono ?_)
          rintro e w10 ⟨rfl, hz⟩
          have HB10 := Lib.hid (below_trans HB9.out hz)
          clear hz
          go_wp2_with fail
          go_ret
          exact ⟨rfl, HB10.out⟩
        · have e1 : (ruleE s (putR x l) y != 0) = true := by simpa using he6
          have HB8 := Lib.hid HL8.out.2.2.2
          clear he6
          generalize ruleE s (putR x l) y = z6 at *
          go_wp2_with fail
          go_ret
          exact ⟨rfl, HB8.out⟩
  · have e1 : (ruleE s l x != 0) = true := by simpa using he
    clear he
    generalize ruleE s l x = z0 at *
    go_wp2_with fail
    (with_reducible refine (HRX.out _ HRW.out).mono ?_)
    rintro e w2 ⟨v2, u2, s2, l2, rfl, hg2, hz2, _⟩
    obtain ⟨av2, nv2, cv2, rfl⟩ : ∃ a n c, v2 = .slice a n c := (by obtain ⟨a', c', e⟩ := hg2.1.slice; exact ⟨a', _, c', e⟩)
    obtain ⟨au2, nu2, cu2, rfl⟩ : ∃ a n c, u2 = .slice a n c := (by obtain ⟨a', c', e⟩ := hg2.2.slice; exact ⟨a', _, c', e⟩)
    have HB2 := Lib.hid (below_trans (below_trans HL.out.2.2.2 hz2) (al w2 (.cells #[.slice av2 nv2 cv2, .slice au2 nu2 cu2] 25)))
    clear hz2 hg2
    go_wp2_with fail
    (with_reducible refine (HAL.out _).mono ?_)
    rintro e w3 ⟨rfl, hz⟩
    have HB3 := Lib.hid (below_trans HB2.out hz)
    clear hz
    go_wp2_with fail
    go_ret
    exact ⟨rfl, HB3.out⟩


set_option maxRecDepth 100000 in
set_option maxHeartbeats 4000000 in
theorem lifted (os : Os) (started : os.Started) (H : Type) (enc : TypeId × Value → H) :
    ReturnsInHanded {} Try.checked os 5 .any (Rows.goodsStaySpec.pre6 enc Try.prog Try.f5 Rows.goodsStayRow.domain false) (Rows.goodsStaySpec.post enc Try.prog Try.f5 false true false false) := by
  refine returnsInHanded_of_change (C := Try.checked) own started (by kernel_rfl) Try.func5
    (ChangeSpec.witness6 (enc := enc) (C := Try.checked) false ⟨#[], #[.agg #[.slice none 0 0, .slice none 0 0], .agg #[.string ByteArray.empty, .string ByteArray.empty, .int .i64 0, .int .i64 0, .int .i64 0], .agg #[.string ByteArray.empty, .string ByteArray.empty, .int .i64 0, .int .i64 0, .int .i64 0]], []⟩ 8 (by kernel_rfl) (by kernel_rfl) (by kernel_rfl) (by kernel_rfl)) ?_
  intro W base args ds gs before hval0 hW hcnd _
  have hval : ∀ (j : Nat) t v, Try.f5.params[j]? = some t → args[j]? = some v → Value.okWide Try.prog W .any base t v := hval0
  have hW' := hW
  obtain ⟨p, q, hA0, hV, rfl, hfz, hnd⟩ := hW
  have hA : DataW.TrodAll enc Try.prog W 0 (fun _ => true) true Try.f5.params.toList args.toList ds p := hA0
  rw [Try.params5] at hA hval
  obtain ⟨v0, vs0, d0, ds0, p0, q0, hargs, rfl, rfl, h0, r0⟩ := trodAll_cons hA
  obtain ⟨v1, vs1, d1, ds1, p1, q1, rfl, rfl, rfl, h1, r1⟩ := trodAll_cons r0
  obtain ⟨v2, vs2, d2, ds2, p2, q2, rfl, rfl, rfl, h2, r2⟩ := trodAll_cons r1
  obtain ⟨rfl, rfl, rfl⟩ := trodAll_nil r2
  obtain rfl : args = #[v0, v1, v2] := by cases args; simp_all
  obtain ⟨rfl, rfl⟩ := trodVars_none hV
  have k0 := h0
  have lt0 : ∀ x ∈ p0, x.block < W.heap.size := by obtain ⟨m, hm⟩ := k0; exact DataW.trod_lt m _ _ _ hm
  obtain ⟨fuel0, hf0⟩ := h0
  obtain ⟨va0, vb0, rfl, wa0, wb0⟩ := open_goods (hval 0 25 v0 rfl rfl) hf0
  have k1 := h1
  have lt1 : ∀ x ∈ p1, x.block < W.heap.size := by obtain ⟨m, hm⟩ := k1; exact DataW.trod_lt m _ _ _ hm
  obtain ⟨fuel1, hf1⟩ := h1
  obtain ⟨x1, rfl, w1⟩ := open_sub (hval 1 27 v1 rfl rfl) hf1
  have k2 := h2
  have lt2 : ∀ x ∈ p2, x.block < W.heap.size := by obtain ⟨m, hm⟩ := k2; exact DataW.trod_lt m _ _ _ hm
  obtain ⟨fuel2, hf2⟩ := h2
  obtain ⟨x2, rfl, w2⟩ := open_sub (hval 2 27 v2 rfl rfl) hf2
  clear hA0 hval0
  refine (walk0 va0 vb0 x1 w1 x2 w2 W wa0 wb0).mono fun e W' ⟨he, bel⟩ => ?_
  subst he
  exact ⟨_, rfl, _, _, _, [], _, [], hW', trodAll_mk1 (shut_bool Try.underlying4 _), (trodAll_cons_mk (Below.trod laidOut (by kernel_rfl) (of_decide_eq_true (by kernel_rfl)) k0 bel lt0) (trodAll_cons_mk (Below.trod laidOut (by kernel_rfl) (of_decide_eq_true (by kernel_rfl)) k1 bel lt1) (trodAll_cons_mk (Below.trod laidOut (by kernel_rfl) (of_decide_eq_true (by kernel_rfl)) k2 bel lt2) trodAll_mk0))), rfl, bel.frame _, fun h => by cases h⟩

theorem over : Rows.goodsStayRow.holds Try.pinned (OpenSpec.ofChange Rows.goodsStaySpec) :=
  OpenClaim.holds_of_wide 5 Try.f5 rfl rfl rfl rfl rfl rfl rfl ⟨rfl, rfl, rfl, rfl, rfl⟩ rfl rfl rfl rfl rfl (by kernel_rfl) Try.func5 (by kernel_rfl)
    (of_decide_eq_true (by kernel_rfl)) (by unfold Func.isWrapper; first | (rw [if_pos (by decide +kernel)]; kernel_rfl) | (rw [if_neg (by decide +kernel)]; exact ⟨rfl, rfl⟩))
    (fun os started H enc _ => lifted os started H enc)

theorem proved : Rows.GoodsStaySaid := over
#print axioms proved

end Go.Proofs.Ythhadeohabkleaa.goodsStay
