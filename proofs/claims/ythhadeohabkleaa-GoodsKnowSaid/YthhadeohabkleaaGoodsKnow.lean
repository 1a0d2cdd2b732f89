/-
  Proved: for any goods, text and rule the law GoodsKnow returns true: which goods may be, what a name and a rule more make of any, and which rules a name has, is as the document says, or refused. No condition.
-/
import Derived.Test.YthhadeohabkleaaRows
import Derived.Test.YthhadeohabkleaaGArg
import Derived.Test.YthhadeohabkleaaGRefR
import Derived.Test.YthhadeohabkleaaGHold2
import Derived.Deep.CutBlock
namespace Go.Proofs.Ythhadeohabkleaa.goodsKnow
open Go.ChangeShapes Go.WideShapes Go.ChangeAt Go.RowKit Go.Lib Go.Proofs.Ythhadeohabkleaa.Goods
open Go.ChangeMaps (open_string shut_string)
set_option linter.unusedVariables false

theorem own : ownKnob Try.prog.godebug = none := by kernel_rfl
theorem laidOut : laidOutB Try.prog = true := by kernel_rfl

/-- The two arguments in their boxes. -/
def LawB (w : World) (g a : List Value) (W : World) : Prop := Box w.heap.size g W ∧ Box (w.heap.size + 1) a W ∧ Below w.heap.size w W
theorem LawB.below {w W W' : World} {g a : List Value} (h : LawB w g a W) (hb : Below W.heap.size W W') : LawB w g a W' := ⟨h.1.below hb, h.2.1.below hb, below_trans h.2.2 hb⟩
theorem LawB.made (w : World) (g a : List Value) : LawB w g a ((w.alloc (.cells g.toArray 25)).alloc (.cells a.toArray 27)) := by
  have h1 := (Box.made w g 25).below (al _ (.cells a.toArray 27))
  have h2 := Box.made (w.alloc (.cells g.toArray 25)) a 27
  simp only [World.size_alloc] at h2
  exact ⟨h1, h2, below_trans (al _ _) (al _ _)⟩
/-- The world behind the first statement's stores. -/
def stW (w W : World) (v u : Value) (x : Sb) : World :=
  ((((((W.setCell ⟨w.heap.size, 0, none⟩ v).setCell ⟨w.heap.size, 1, none⟩ u).setCell ⟨w.heap.size + 1, 0, none⟩ (.string x.f)).setCell ⟨w.heap.size + 1, 1, none⟩ (.string x.t)).setCell ⟨w.heap.size + 1, 2, none⟩ (.int .i64 x.r)).setCell ⟨w.heap.size + 1, 3, none⟩ (.int .i64 x.n)).setCell ⟨w.heap.size + 1, 4, none⟩ (.int .i64 x.d)
theorem box_two_other {b c : Nat} {vs : List Value} {W : World} (h : Box b vs W) (hn : b ≠ c) (u0 u1 : Value) : Box b vs ((W.setCell ⟨c, 0, none⟩ u0).setCell ⟨c, 1, none⟩ u1) := (h.other hn 0 u0).other hn 1 u1
theorem box_five_other {b c : Nat} {vs : List Value} {W : World} (h : Box b vs W) (hn : b ≠ c) (u0 u1 u2 u3 u4 : Value) : Box b vs (((((W.setCell ⟨c, 0, none⟩ u0).setCell ⟨c, 1, none⟩ u1).setCell ⟨c, 2, none⟩ u2).setCell ⟨c, 3, none⟩ u3).setCell ⟨c, 4, none⟩ u4) := ((((h.other hn 0 u0).other hn 1 u1).other hn 2 u2).other hn 3 u3).other hn 4 u4
theorem st_law {w W : World} {g0 g1 a0 a1 a2 a3 a4 : Value} (h : LawB w [g0, g1] [a0, a1, a2, a3, a4] W) (v u : Value) (x : Sb) : LawB w [v, u] (sl x) (stW w W v u x) := by
  obtain ⟨h1, h2, h4⟩ := h
  refine ⟨?_, ?_, ?_⟩
  · exact box_five_other (h1.two v u) (by omega) _ _ _ _ _
  · exact (box_two_other h2 (by omega) _ _).five _ _ _ _ _
  · exact below_five (b := w.heap.size + 1) _ _ _ _ _ (below_two (b := w.heap.size) _ _ h4 (Nat.le_refl _)) (by omega)
theorem st_rows {w W : World} {v u : Value} {s : List ByteArray} {l : List Sb} (h : GGood W v u s l) (hv : ∀ g, v.ownBlock = some g → w.heap.size + 1 + 1 ≤ g) (hu : ∀ g, u.ownBlock = some g → w.heap.size + 1 + 1 ≤ g) (x : Sb) : GGood (stW w W v u x) v u s l := by
  have n0 : ∀ g, v.ownBlock = some g → g ≠ w.heap.size := fun g hg => by have := hv g hg; omega
  have n1 : ∀ g, v.ownBlock = some g → g ≠ w.heap.size + 1 := fun g hg => by have := hv g hg; omega
  have m0 : ∀ g, u.ownBlock = some g → g ≠ w.heap.size := fun g hg => by have := hu g hg; omega
  have m1 : ∀ g, u.ownBlock = some g → g ≠ w.heap.size + 1 := fun g hg => by have := hu g hg; omega
  exact ⟨((((((h.1.apart n0).apart n0).apart n1).apart n1).apart n1).apart n1).apart n1, ((((((h.2.apart m0).apart m0).apart m1).apart m1).apart m1).apart m1).apart m1⟩
theorem Know_any {v u : Value} {s : List ByteArray} {l : List Sb} {w : World} (h : GGood w v u s l) (hs : Short s l) (k : ByteArray) (hk : k.size ≤ 1000000) : Calls Try.prog 8 #[.agg #[v, u], .string k] w (fun e w' => ∃ v' u' s' l', e = .returned (.tuple #[.agg #[v', u'], .int .i64 (knowE s l k)]) ∧ GGood w' v' u' s' l' ∧ Below w.heap.size w w' ∧ (knowE s l k = 0 → s' = putL (fun o => ltT o k) k s ∧ l' = l) ∧ (knowE s l k ≠ 0 → s' = [] ∧ l' = [])) := by
  by_cases he : knowE s l k = 0
  · refine (Know_yes h hs k hk he).mono ?_
    rintro e w' ⟨v', u', rfl, hg, hb⟩
    exact ⟨v', u', _, _, by rw [he], hg, hb, fun _ => ⟨rfl, rfl⟩, fun e => absurd he e⟩
  · refine (Know_no h hs k hk he).mono ?_
    rintro e w' ⟨v', u', rfl, hg, hb⟩
    exact ⟨v', u', [], [], rfl, hg, hb, fun e => absurd e he, fun _ => ⟨rfl, rfl⟩⟩
theorem Rule_any {v u : Value} {s : List ByteArray} {l : List Sb} {w : World} (h : GGood w v u s l) (hs : Short s l) (x : Sb) (hx : small x) : Calls Try.prog 9 #[.agg #[v, u], sv x] w (fun e w' => ∃ v' u' s' l', e = .returned (.tuple #[.agg #[v', u'], .int .i64 (ruleE s l x)]) ∧ GGood w' v' u' s' l' ∧ Below w.heap.size w w' ∧ (ruleE s l x = 0 → s' = s ∧ l' = putR x l) ∧ (ruleE s l x ≠ 0 → s' = [] ∧ l' = [])) := by
  by_cases he : ruleE s l x = 0
  · refine (Rule_yes h hs x hx he).mono ?_
    rintro e w' ⟨v', u', rfl, hg, hb⟩
    exact ⟨v', u', s, _, by rw [he], hg, hb, fun _ => ⟨rfl, rfl⟩, fun e => absurd he e⟩
  · refine (Rule_no h hs x hx he).mono ?_
    rintro e w' ⟨v', u', rfl, hg, hb⟩
    exact ⟨v', u', [], [], rfl, hg, hb, fun e => absurd e he, fun _ => ⟨rfl, rfl⟩⟩
/-- The error of For, and what it makes. -/
def forE (s : List ByteArray) (l : List Sb) (k : ByteArray) : Int := if rightB s l = false then 1 else if hasB s k = false then 8 else 0
def forG (s : List ByteArray) (l : List Sb) (k : ByteArray) : List Sb := if rightB s l = true ∧ hasB s k = true then forL k l else []
theorem For_any {v u : Value} {s : List ByteArray} {l : List Sb} {w : World} (h : GGood w v u s l) (hs : Short s l) (k : ByteArray) : Calls Try.prog 10 #[.agg #[v, u], .string k] w (RulesE (forG s l k) (forE s l k) w) := by
  unfold forG forE
  cases hr : rightB s l with
  | false => exact For_no h hs k (.inl ⟨hr, rfl⟩)
  | true =>
    cases hh : hasB s k with
    | false => exact For_no h hs k (.inr ⟨hr, hh, rfl⟩)
    | true => exact For_yes h hs k hr hh
theorem put_same {α : Type} {p q : α → Bool} {x : α} : ∀ {l : List α}, (∀ o ∈ l, p o = q o) → putL p x l = putL q x l
  | [], _ => rfl
  | y :: l, h => by
    have ih := put_same (p := p) (q := q) (x := x) (l := l) (fun o ho => h o (List.mem_cons_of_mem _ ho))
    have hy := h y (List.mem_cons_self ..)
    unfold putL at *
    cases hc : q y with
    | true =>
      rw [hc] at hy
      simp only [List.takeWhile_cons, List.dropWhile_cons, hy, hc, if_true, List.cons_append]
      rw [ih]
    | false =>
      rw [hc] at hy
      simp [hy, hc]
theorem know_ref {s : List ByteArray} {l : List Sb} {k : ByteArray} (he : knowE s l k = 0) : putL (fun o => ltT o k) k s = putL (fun o => !ltT k o) k s := by
  rcases know_ways s l k with ⟨_, e⟩ | ⟨_, _, e⟩ | ⟨_, _, _, e⟩ | ⟨_, _, _, _, e⟩ | ⟨_, _, h3, _, _⟩
  · rw [e] at he; cases he
  · rw [e] at he; cases he
  · rw [e] at he; cases he
  · rw [e] at he; cases he
  · refine put_same fun o ho => ?_
    have hne : o ≠ k := fun e => by
      rw [hasB_t.2 (e ▸ ho)] at h3
      cases h3
    cases h : ltT o k with
    | true => rw [ltT_not h]; rfl
    | false =>
      cases h' : ltT k o with
      | true => rfl
      | false => exact absurd (ltT_total h h') hne
theorem rule_ref {s : List ByteArray} {l : List Sb} {x : Sb} (he : ruleE s l x = 0) : putR x l = putL (fun o => !belowB x o) x l := by
  obtain ⟨_, _, _, h4, _⟩ := rule_in.1 he
  refine put_same fun o ho => ?_
  have hr := (clash_not (h4 o ho)).1
  rcases apart_ways hr with h | h
  · rw [h, belowB_not h]; rfl
  · rw [h, belowB_not h]; rfl
/-- What the law reckons as a rule's clash. -/
def twB (o x : Sb) : Bool := decide (o.f = x.f) && (decide (o.r = x.r) || decide (o.t = x.t))
theorem tw_clash (o x : Sb) : twB o x = clashB o x := by
  unfold twB clashB rankB toB
  by_cases h1 : o.f = x.f <;> by_cases h2 : o.r = x.r <;> by_cases h3 : o.t = x.t <;> simp [h1, h2, h3]

set_option maxRecDepth 100000 in
set_option maxHeartbeats 4000000 in
theorem walk0 (va vb : Value) (k0 : ByteArray) (hk0 : k0.size ≤ 9223372036854775807) (x0 : Sb) (hx0 : Came x0) (w : World) (hva : ArgT w va) (hvb : ArgG w vb) :
    Calls Try.prog 3 #[.agg #[va, vb], .string k0, sv x0] w (BoolB true w) := by
  obtain ⟨la, hla, hlas⟩ := hva
  obtain ⟨lb, hlb, hlbs⟩ := hvb
  have hfe := fun W (hW : Below w.heap.size w W) => few_any ⟨la, hla.below hW, hlas⟩ ⟨lb, hlb.below hW, hlbs⟩
  obtain ⟨aa, ca, rfl⟩ := hla.slice
  obtain ⟨ab, cb, rfl⟩ := hlb.slice
  have hcx := fun W => cut_any x0 hx0.1 hx0.2.1 W
  have hsx := cutR_small x0
  generalize cutR x0 = x at hcx hsx
  unfold SubB sv at hcx
  unfold sv
  have HFE := Lib.hid hfe
  have HCX := Lib.hid hcx
  have HSX := Lib.hid hsx
  have HL := Lib.hid (LawB.made w [.slice aa la.length ca, .slice ab lb.length cb] [.string x0.f, .string x0.t, .int .i64 x0.r, .int .i64 x0.n, .int .i64 x0.d])
  clear hla hlas hlb hlbs hfe hcx hsx hx0
  generalize la.length = na at *
  generalize lb.length = nb at *
  go_enter Try.func3, Try.ntmps3
  go_upto_region 1 with (fail)
  generalize (w.alloc (.cells #[.slice aa na ca, .slice ab nb cb] 25)).alloc (.cells #[.string x0.f, .string x0.t, .int .i64 x0.r, .int .i64 x0.n, .int .i64 x0.d] 27) = W at *
  go_cut [1] from 18 to 26 (fun z wx => ∃ v u s l k, z = .string k ∧ k.size ≤ 18 ∧ LawB w [v, u] (sl x) wx ∧ GGood wx v u s l ∧ Tiny s l)
  case first =>
    obtain ⟨q, hq, hqt, hq18⟩ : ∃ q : Nat, (if (18 : Int) < (k0.size : Int) then (18 : Int) else (k0.size : Int)) = q ∧ q ≤ k0.size ∧ q ≤ 18 := ⟨min k0.size 18, by split <;> omega, by omega, by omega⟩
    have i0 : (0 : Int) ≤ (q : Int) := by omega
    have i1 : (q : Int) ≤ (k0.size : Int) := by omega
    refine wp_region_noPanic ?_
    refine till2_region (fun W' => LawB w [.slice aa na ca, .slice ab nb cb] [.string x0.f, .string x0.t, .int .i64 x0.r, .int .i64 x0.n, .int .i64 x0.d] W') (fun j => [9, 10, 11].contains j) (by kernel_rfl) ?_
    have hS := HL.out.below (dr W)
    try simp only [Act.put, List.setIfInBounds_toArray, List.set_cons_zero, List.set_cons_succ]
    refine takeS 0 18 [9, 10, 11] (.agg #[.slice aa na ca, .slice ab nb cb]) calm_np rfl rfl (by kernel_rfl) (by rfl) (by kernel_rfl) (by intro b _ h; simp at h ⊢; omega) (by kernel_rfl) (by kernel_rfl) (by kernel_rfl) (by rfl) (fun w hSw => by obtain ⟨c0, c1⟩ := hSw.1.c2; go_simp) hS ?_
    try simp only [Act.put, List.setIfInBounds_toArray, List.set_cons_zero, List.set_cons_succ]
    refine takeP 2 20 (.string k0) calm_np rfl rfl (by kernel_rfl) (by rfl) (by kernel_rfl) (by kernel_rfl) (by rfl) (fun w => by go_simp) (fun _ => hS) ?_
    try simp only [Act.put, List.setIfInBounds_toArray, List.set_cons_zero, List.set_cons_succ]
    refine takeP 3 21 (.string k0) calm_np rfl rfl (by kernel_rfl) (by rfl) (by kernel_rfl) (by kernel_rfl) (by rfl) (fun w => by go_simp) (fun _ => hS) ?_
    try simp only [Act.put, List.setIfInBounds_toArray, List.set_cons_zero, List.set_cons_succ]
    refine takeP 4 22 (.int .i64 k0.size) calm_np rfl rfl (by kernel_rfl) (by rfl) (by kernel_rfl) (by kernel_rfl) (by rfl) (fun w => by go_simp) (fun _ => hS) ?_
    try simp only [Act.put, List.setIfInBounds_toArray, List.set_cons_zero, List.set_cons_succ]
    refine takeP 5 23 (.int .i64 q) calm_np rfl rfl (by kernel_rfl) (by rfl) (by kernel_rfl) (by kernel_rfl) (by rfl) (fun w => by go_simp) (fun _ => hS) ?_
    try simp only [Act.put, List.setIfInBounds_toArray, List.set_cons_zero, List.set_cons_succ]
    refine takeP 6 24 (.string (k0.extract 0 q)) calm_np rfl rfl (by kernel_rfl) (by rfl) (by kernel_rfl) (by kernel_rfl) (by rfl) (fun w => by go_simp) (fun _ => hS) ?_
    try simp only [Act.put, List.setIfInBounds_toArray, List.set_cons_zero, List.set_cons_succ]
    refine takeS 7 25 [8, 9, 10, 11] (.agg #[.string x0.f, .string x0.t, .int .i64 x0.r, .int .i64 x0.n, .int .i64 x0.d]) calm_np rfl rfl (by kernel_rfl) (by rfl) (by kernel_rfl) (by intro b _ h; simp at h ⊢; omega) (by kernel_rfl) (by kernel_rfl) (by kernel_rfl) (by rfl) (fun w hSw => by obtain ⟨c0, c1, c2, c3, c4⟩ := hSw.2.1.c5; go_simp) hS ?_
    try simp only [Act.put, List.setIfInBounds_toArray, List.set_cons_zero, List.set_cons_succ]
    refine till2_ready (rs := [1]) (by kernel_rfl) (by simp) (Each2.cons rfl (fun K hK => ?_) Each2.nil)
    go_simp
    go_at_call 6
    refine (HFE.out _ hS.2.2).mono ?_
    rintro e V1 ⟨v, u, s, l, rfl, htiny, hgood, hz, hfv, hfu⟩
    obtain ⟨av, nv, cv, rfl⟩ : ∃ a n c, v = .slice a n c := (by obtain ⟨a', c', e⟩ := hgood.1.slice; exact ⟨a', _, c', e⟩)
    obtain ⟨au, nu, cu, rfl⟩ : ∃ a n c, u = .slice a n c := (by obtain ⟨a', c', e⟩ := hgood.2.slice; exact ⟨a', _, c', e⟩)
    have hsz := hS.2.1.1
    have hS1 := hS.below hz
    go_simp
    refine hK.out _ _ (fun _ _ => hS1) ?_
    clear hK
    try simp only [Act.put, List.setIfInBounds_toArray, List.set_cons_zero, List.set_cons_succ]
    refine till2_ready (rs := [8]) (by kernel_rfl) (by simp) (Each2.cons rfl (fun K hK => ?_) Each2.nil)
    go_simp
    go_at_call 7
    refine (HCX.out _).mono ?_
    rintro e V3 ⟨rfl, hz3⟩
    have hS3 := hS1.below hz3
    go_simp
    refine hK.out _ _ (fun _ _ => hS3) ?_
    clear hK
    have HLW := Lib.hid (st_law hS3 (.slice av nv cv) (.slice au nu cu) x)
    have HG := Lib.hid (st_rows (w := w) (hgood.below hz3) (fun g hg => by have := hfv g hg; omega) (fun g hg => by have := hfu g hg; omega) x)
    obtain ⟨c0, c1⟩ := hS3.1.c2
    obtain ⟨f0, f1⟩ := hS3.1.z2
    have hs0 := hS3.1.1
    obtain ⟨d0, d1, d2, d3, d4⟩ := hS3.2.1.c5
    obtain ⟨e0, e1, e2, e3, e4⟩ := hS3.2.1.z5
    have hs1 := hS3.2.1.1
    try simp only [Act.put, List.setIfInBounds_toArray, List.set_cons_zero, List.set_cons_succ]
    refine till2_ready (rs := [9]) (by kernel_rfl) (by simp) (Each2.cons rfl (fun K hK => ?_) Each2.nil)
    go_simp
    refine hK.out _ _ (fun _ h => by cases h) ?_
    clear hK
    try simp only [Act.put, List.setIfInBounds_toArray, List.set_cons_zero, List.set_cons_succ]
    refine till2_ready (rs := [10]) (by kernel_rfl) (by simp) (Each2.cons rfl (fun K hK => ?_) Each2.nil)
    go_simp
    refine hK.out _ _ (fun _ h => by cases h) ?_
    clear hK
    try simp only [Act.put, List.setIfInBounds_toArray, List.set_cons_zero, List.set_cons_succ]
    refine till2_ready (rs := [11]) (by kernel_rfl) (by simp) (Each2.cons rfl (fun K hK => ?_) Each2.nil)
    go_simp
    refine hK.out _ _ (fun _ h => by cases h) ?_
    clear hK
    try simp only [Act.put, List.setIfInBounds_toArray, List.set_cons_zero, List.set_cons_succ]
    refine till2_done (by kernel_rfl) ?_ _
    refine NoPanic.normal ?_
    go_wp2_with fail
    go_meet
    exact ⟨_, _, s, l, k0.extract 0 q, rfl, by rw [ByteArray.size_extract]; omega, HLW.out, HG.out, htiny⟩
  case rest =>
  obtain ⟨v, u, s, l, k, rfl, hk18, hlw, hg, htiny⟩ := hcut
  have hsh := htiny.short
  have hs10 := htiny.1
  have hl18 := htiny.2.1
  obtain ⟨av, cv, rfl⟩ := hg.1.slice
  obtain ⟨au, cu, rfl⟩ := hg.2.slice
  have hcap := hg.2.cap.2
  have HGG := Lib.hid hg
  have HRW := Lib.hid (Below.refl wc.heap.size wc)
  have HKN := Lib.hid (fun W (hW : Below wc.heap.size wc W) => Know_any (hg.below hW) hsh k (by omega))
  have hru := fun W (hW : Below wc.heap.size wc W) => Rule_any (hg.below hW) hsh x HSX.out
  have HFO := Lib.hid (fun W (hW : Below wc.heap.size wc W) => For_any (hg.below hW) hsh k)
  unfold sv at hru
  unfold sl at hlw
  have HRU := Lib.hid hru
  have HL1 := Lib.hid hlw
  have HSH := Lib.hid hsh
  clear hru hlw hg HFE HCX htiny HL hk0 hsh
  obtain ⟨x0', x1'⟩ := HL1.out.1.c2
  have hs0 := HL1.out.1.1
  go_wp2_with fail
  (with_reducible refine (HKN.out _ HRW.out).mono ?_)
  rintro e w2 ⟨v2, u2, s2, l2, rfl, hg2, hz, hq2, hn2⟩
  obtain ⟨aw2, nw2, cw2, rfl⟩ : ∃ a n c, v2 = .slice a n c := (by obtain ⟨a', c', e⟩ := hg2.1.slice; exact ⟨a', _, c', e⟩)
  obtain ⟨bw2, mw2, dw2, rfl⟩ : ∃ a n c, u2 = .slice a n c := (by obtain ⟨a', c', e⟩ := hg2.2.slice; exact ⟨a', _, c', e⟩)
  have hf := al w2 (.cells #[.slice aw2 nw2 cw2, .slice bw2 mw2 dw2] 25)
  have hbx := Box.made w2 [.slice aw2 nw2 cw2, .slice bw2 mw2 dw2] 25
  have HLA := Lib.hid ((HL1.out.below hz).below hf)
  have HWA := Lib.hid (below_trans hz hf)
  have HA := Lib.hid (hg2.below hf)
  have HXA := Lib.hid hbx
  have HQ2 := Lib.hid hq2
  have HN2 := Lib.hid hn2
  clear hz hg2 hf hbx hq2 hn2 x0' x1' hs0
  go_upto_region 3 with (fail)
  generalize hgx : w2.heap.size = ga at *
  generalize w2.alloc (.cells #[.slice aw2 nw2 cw2, .slice bw2 mw2 dw2] 25) = WA at *
  clear hgx
  obtain ⟨x0', x1'⟩ := HLA.out.1.c2
  have hs0 := HLA.out.1.1
  obtain ⟨y0, y1, y2, y3, y4⟩ := HLA.out.2.1.c5
  have hs1 := HLA.out.2.1.1
  go_wp2_with fail
  (with_reducible refine (HRU.out _ HWA.out).mono ?_)
  rintro e w3 ⟨v3, u3, s3, l3, rfl, hg3, hz, hq3, hn3⟩
  obtain ⟨aw3, nw3, cw3, rfl⟩ : ∃ a n c, v3 = .slice a n c := (by obtain ⟨a', c', e⟩ := hg3.1.slice; exact ⟨a', _, c', e⟩)
  obtain ⟨bw3, mw3, dw3, rfl⟩ : ∃ a n c, u3 = .slice a n c := (by obtain ⟨a', c', e⟩ := hg3.2.slice; exact ⟨a', _, c', e⟩)
  have hf := al w3 (.cells #[.slice aw3 nw3 cw3, .slice bw3 mw3 dw3] 25)
  have hbx := Box.made w3 [.slice aw3 nw3 cw3, .slice bw3 mw3 dw3] 25
  have HLB := Lib.hid ((HLA.out.below hz).below hf)
  have HWB := Lib.hid (below_trans HWA.out (below_trans hz hf))
  have HA2 := Lib.hid ((HA.out.below hz).below hf)
  have HXA2 := Lib.hid ((HXA.out.below hz).below hf)
  have HB := Lib.hid (hg3.below hf)
  have HXB := Lib.hid hbx
  have HQ3 := Lib.hid hq3
  have HN3 := Lib.hid hn3
  clear hz hg3 hf hbx hq3 hn3 x0' x1' hs0 y0 y1 y2 y3 y4 hs1 HLA HWA HA HXA HL1
  go_upto_region 4 with (fail)
  generalize hgx : w3.heap.size = gb at *
  generalize w3.alloc (.cells #[.slice aw3 nw3 cw3, .slice bw3 mw3 dw3] 25) = WB at *
  clear hgx
  obtain ⟨x0', x1'⟩ := HLB.out.1.c2
  have hs0 := HLB.out.1.1
  go_wp2_with fail
  (with_reducible refine (HFO.out _ HWB.out).mono ?_)
  rintro e w4 ⟨v4, rfl, hg4, hz⟩
  obtain ⟨aF, cF, rfl⟩ := hg4.slice
  have hf := al w4 (.cells #[.slice none 0 0, .slice none 0 0] 25)
  have hbx := Box.made w4 [.slice none 0 0, .slice none 0 0] 25
  have HLC := Lib.hid ((HLB.out.below hz).below hf)
  have HWC := Lib.hid (below_trans HWB.out (below_trans hz hf))
  have HA3 := Lib.hid ((HA2.out.below hz).below hf)
  have HXA3 := Lib.hid ((HXA2.out.below hz).below hf)
  have HB3 := Lib.hid ((HB.out.below hz).below hf)
  have HXB3 := Lib.hid ((HXB.out.below hz).below hf)
  have HF3 := Lib.hid (hg4.below hf)
  have HXN := Lib.hid hbx
  clear hz hg4 hf hbx x0' x1' hs0 HLB HWB HA2 HXA2 HB HXB
  go_upto_region 6 with (fail)
  generalize hgx : w4.heap.size = gn at *
  generalize w4.alloc (.cells #[.slice none 0 0, .slice none 0 0] 25) = W5 at *
  clear hgx
  have HRI := Lib.hid (fun W (hW : Below W5.heap.size W5 W) => Right_any (HGG.out.below (below_trans HWC.out hW)) HSH.out)
  have HRR := Lib.hid (fun W (hW : Below W5.heap.size W5 W) => refRight_any (HGG.out.below (below_trans HWC.out hW)) HSH.out)
  have HAL := Lib.hid (fun W => alive_any W)
  have HSF : Hid (∀ W', Below W5.heap.size W5 W' → W'.cell? ⟨w.heap.size, 0, none⟩ = some (.slice av s.length cv) ∧ W'.cell? ⟨w.heap.size, 1, none⟩ = some (.slice au l.length cu)) := Lib.hid (fun W' hW => (HLC.out.below hW).1.c2)
  obtain ⟨x0', x1'⟩ := HLC.out.1.c2
  have hs0 := HLC.out.1.1
  obtain ⟨r, hr⟩ : ∃ r, rightB s l = r := ⟨_, rfl⟩
  rw [hr] at HRI HRR
  go_cut [54] from 46 to 54 (fun z wx => z = .bool false ∧ Below W5.heap.size W5 wx)
  case first =>
    clear hr
    cases r
    all_goals (
      go_region_held3 (fun w' => w'.cell? ⟨w.heap.size, 0, none⟩ = some (.slice av s.length cv) ∧ w'.cell? ⟨w.heap.size, 1, none⟩ = some (.slice au l.length cu)) (first | with_reducible exact HSF.out _ (dr W5) | with_reducible exact HSF.out _ HZ3.out | with_reducible exact HSF.out _ HZ2.out | with_reducible exact HSF.out _ HZ1.out | fail)
        (first
          | (go_at_call 11; (with_reducible refine (HRI.out _ (dr W5)).mono ?_); rintro e V1 ⟨rfl, hz⟩; have HZ1 := Lib.hid (below_trans (dr W5) hz); clear hz)
          | (go_at_call 12; (with_reducible refine (HRR.out _ HZ1.out).mono ?_); rintro e V2 ⟨rfl, hz⟩; have HZ2 := Lib.hid (below_trans HZ1.out hz); clear hz)
          | (go_at_call 13; (with_reducible refine (HAL.out _).mono ?_); rintro e V3 ⟨rfl, hz⟩; have HZ3 := Lib.hid (below_trans HZ2.out hz); clear hz)
          | fail)
      go_wp2_with fail
      go_meet
      exact ⟨rfl, HZ3.out⟩)
  case rest =>
  obtain ⟨rfl, hW6⟩ := hcut
  have HW6 := Lib.hid hW6
  have hfl : forL k l = forL k l := rfl
  clear x0' x1' hs0 hW6 hfl HSF
  obtain ⟨x0', x1'⟩ := (HLC.out.below HW6.out).1.c2
  have hs0 := (HLC.out.below HW6.out).1.1
  cases r with
  | false =>
    have e1 : knowE s l k = 1 := by unfold knowE; rw [hr]; rfl
    have e2 : ruleE s l x = 1 := by unfold ruleE; rw [hr]; rfl
    have e3 : forE s l k = 1 := by unfold forE; rw [hr]; rfl
    have e4 : (forG s l k).length = 0 := by unfold forG; rw [hr]; rfl
    obtain ⟨i1, i2⟩ := HN2.out (by rw [e1]; decide)
    obtain ⟨i3, i4⟩ := HN3.out (by rw [e2]; decide)
    rw [i1, i2] at HA3
    rw [i3, i4] at HB3
    have hE : Hid (knowE s l k = 1 ∧ ruleE s l x = 1 ∧ forE s l k = 1 ∧ (forG s l k).length = 0) := Lib.hid ⟨e1, e2, e3, e4⟩
    clear i1 i2 i3 i4 hr e1 e2 e3 e4
    go_wp2_with fail
    (with_reducible refine (HRR.out _ HW6.out).mono ?_)
    rintro e w7 ⟨rfl, hz⟩
    have HW7 := Lib.hid (below_trans HW6.out hz)
    clear hz x0' x1' hs0
    obtain ⟨x0', x1'⟩ := (HXA3.out.below HW7.out).c2
    have hs0 := (HXA3.out.below HW7.out).1
    obtain ⟨y0, y1⟩ := (HXN.out.below HW7.out).c2
    have hs1 := (HXN.out.below HW7.out).1
    have HLK1 := Lib.hid (Like_yes (HA3.out.below HW7.out) (none_good w7))
    obtain ⟨e1, e2, e3, e4⟩ := hE.out
    go_wp2_with fail
    (with_reducible refine HLK1.out.mono ?_)
    rintro e w8 ⟨rfl, hz⟩
    have HW8 := Lib.hid (below_trans HW7.out hz)
    clear hz x0' x1' hs0 y0 y1 hs1
    obtain ⟨x0', x1'⟩ := (HXB3.out.below HW8.out).c2
    have hs0 := (HXB3.out.below HW8.out).1
    obtain ⟨y0, y1⟩ := (HXN.out.below HW8.out).c2
    have hs1 := (HXN.out.below HW8.out).1
    have HLK2 := Lib.hid (Like_yes (HB3.out.below HW8.out) (none_good w8))
    go_wp2_with fail
    (with_reducible refine HLK2.out.mono ?_)
    rintro e w9 ⟨rfl, hz⟩
    have HW9 := Lib.hid (below_trans (HLC.out.below HW8.out).2.2 hz)
    clear hz
    go_wp2_with fail
    go_ret
    exact ⟨rfl, HW9.out⟩
  | true =>
    have HR1 := Lib.hid hr
    have HNM := Lib.hid (fun W => refName_any k (by omega) W)
    have HHS := Lib.hid (fun W (hW : Below W5.heap.size W5 W) => refHas_any (HGG.out.1.below (below_trans HWC.out hW)) HSH.out.1 k)
    have HWY := Lib.hid (know_ways s l k)
    clear hr
    go_wp2_with fail
    (with_reducible refine (HRR.out _ HW6.out).mono ?_)
    rintro e w7 ⟨rfl, hz⟩
    have HW7 := Lib.hid (below_trans HW6.out hz)
    clear hz x0' x1' hs0
    go_upto_block 0 with (fail)
    go_cut [14] from 83 to 96 (fun z wx => z = .int .i64 (knowE s l k) ∧ Below W5.heap.size W5 wx)
    case first =>
      generalize knowE s l k = z at *
      rcases HWY.out with ⟨e1, _⟩ | ⟨_, e2, rfl⟩ | ⟨_, e2, e3, rfl⟩ | ⟨_, e2, e3, e4, rfl⟩ | ⟨_, e2, e3, e4, rfl⟩
      · rw [HR1.out] at e1
        cases e1
      · rw [e2] at HNM
        clear e2 HWY
        go_wp2_with fail
        (with_reducible refine (HNM.out _).mono ?_)
        rintro e w8 ⟨rfl, hz⟩
        have HW8 := Lib.hid (below_trans HW7.out hz)
        clear hz
        go_wp2_with fail
        go_meet
        exact ⟨rfl, HW8.out⟩
      · rw [e2] at HNM
        rw [e3] at HHS
        clear e2 e3 HWY
        go_wp2_with fail
        (with_reducible refine (HNM.out _).mono ?_)
        rintro e w8 ⟨rfl, hz⟩
        have HW8 := Lib.hid (below_trans HW7.out hz)
        clear hz
        obtain ⟨x0', x1'⟩ := (HLC.out.below HW8.out).1.c2
        have hs0 := (HLC.out.below HW8.out).1.1
        go_wp2_with fail
        (with_reducible refine (HHS.out _ HW8.out).mono ?_)
        rintro e w9 ⟨rfl, hz⟩
        have HW9 := Lib.hid (below_trans HW8.out hz)
        clear hz x0' x1' hs0
        go_wp2_with fail
        go_meet
        exact ⟨rfl, HW9.out⟩
      · rw [e2] at HNM
        rw [e3] at HHS
        have HE4 := Lib.hid e4
        clear e2 e3 e4 HWY
        go_wp2_with fail
        (with_reducible refine (HNM.out _).mono ?_)
        rintro e w8 ⟨rfl, hz⟩
        have HW8 := Lib.hid (below_trans HW7.out hz)
        clear hz
        obtain ⟨x0', x1'⟩ := (HLC.out.below HW8.out).1.c2
        have hs0 := (HLC.out.below HW8.out).1.1
        go_wp2_with fail
        (with_reducible refine (HHS.out _ HW8.out).mono ?_)
        rintro e w9 ⟨rfl, hz⟩
        have HW9 := Lib.hid (below_trans HW8.out hz)
        clear hz x0' x1' hs0
        have e4 : ((s.length : Int) == 8) = true := by rw [HE4.out]; rfl
        obtain ⟨q0, q1⟩ := (HLC.out.below HW9.out).1.c2
        have hsq := (HLC.out.below HW9.out).1.1
        go_wp2_with fail
        go_meet
        exact ⟨rfl, HW9.out⟩
      · rw [e2] at HNM
        rw [e3] at HHS
        have HE4 := Lib.hid e4
        clear e2 e3 e4 HWY
        go_wp2_with fail
        (with_reducible refine (HNM.out _).mono ?_)
        rintro e w8 ⟨rfl, hz⟩
        have HW8 := Lib.hid (below_trans HW7.out hz)
        clear hz
        obtain ⟨x0', x1'⟩ := (HLC.out.below HW8.out).1.c2
        have hs0 := (HLC.out.below HW8.out).1.1
        go_wp2_with fail
        (with_reducible refine (HHS.out _ HW8.out).mono ?_)
        rintro e w9 ⟨rfl, hz⟩
        have HW9 := Lib.hid (below_trans HW8.out hz)
        clear hz x0' x1' hs0
        have e4 : ((s.length : Int) == 8) = false := by have := HE4.out; simpa using (by omega : ¬ ((s.length : Int) = 8))
        obtain ⟨q0, q1⟩ := (HLC.out.below HW9.out).1.c2
        have hsq := (HLC.out.below HW9.out).1.1
        go_wp2_with fail
        go_meet
        exact ⟨rfl, HW9.out⟩
    case rest =>
    obtain ⟨rfl, hW8⟩ := hcut
    have HW8 := Lib.hid hW8
    clear HW7 HW6 hW8 HNM
    rename World => WX
    go_upto_region 17 with (fail)
    go_cut [121] from 97 to 121 (fun z wx => z = .bool false ∧ Below W5.heap.size W5 wx)
    case first =>
      have HKR := Lib.hid (fun W (hW : Below W5.heap.size W5 W) => refKnow_any (HGG.out.below (below_trans HWC.out hW)) HSH.out.1 HSH.out.2.2.1 k (by omega))
      by_cases hz0 : knowE s l k = 0
      · obtain ⟨i1, i2⟩ := HQ2.out hz0
        rw [i1, i2, know_ref hz0] at HA3
        have hWX := HW8.out
        clear i1 i2 HHS HWY HRR HRI HAL HKN HRU HFO HQ2 HN2 HQ3 HN3 HW8
        generalize knowE s l k = z at *
        have e1 : (z == 0) = true := by simpa using hz0
        have e2 : (z != 0) = false := by simpa using hz0
        clear hz0
        have HWX := Lib.hid hWX
        clear hWX
        refine wp_region_noPanic ?_
        refine wp_region_held_drew (S := fun W' => Below WX.heap.size WX W') (by kernel_rfl) (dr WX) (fun hHeld => ?_)
        try simp only [Act.put, List.setIfInBounds_toArray, List.set_cons_zero, List.set_cons_succ]
        refine takeH 0 97 (.int .i64 z) calm_np rfl rfl (by kernel_rfl) (by kernel_rfl) (by kernel_rfl) (by rfl) (fun W' hSw => by go_simp) hHeld ?_
        try simp only [Act.put, List.setIfInBounds_toArray, List.set_cons_zero, List.set_cons_succ]
        refine takeH 1 98 (.int .i64 z) calm_np rfl rfl (by kernel_rfl) (by kernel_rfl) (by kernel_rfl) (by rfl) (fun W' hSw => by go_simp) hHeld ?_
        try simp only [Act.put, List.setIfInBounds_toArray, List.set_cons_zero, List.set_cons_succ]
        refine takeH 2 99 (.bool false) calm_np rfl rfl (by kernel_rfl) (by kernel_rfl) (by kernel_rfl) (by rfl) (fun W' hSw => by go_simp) hHeld ?_
        try simp only [Act.put, List.setIfInBounds_toArray, List.set_cons_zero, List.set_cons_succ]
        refine takeH 3 100 (.bool false) calm_np rfl rfl (by kernel_rfl) (by kernel_rfl) (by kernel_rfl) (by rfl) (fun W' hSw => by go_simp) hHeld ?_
        try simp only [Act.put, List.setIfInBounds_toArray, List.set_cons_zero, List.set_cons_succ]
        refine takeH 4 101 (.int .i64 z) calm_np rfl rfl (by kernel_rfl) (by kernel_rfl) (by kernel_rfl) (by rfl) (fun W' hSw => by go_simp) hHeld ?_
        try simp only [Act.put, List.setIfInBounds_toArray, List.set_cons_zero, List.set_cons_succ]
        refine takeH 5 102 (.bool true) calm_np rfl rfl (by kernel_rfl) (by kernel_rfl) (by kernel_rfl) (by rfl) (fun W' hSw => by go_simp) hHeld ?_
        try simp only [Act.put, List.setIfInBounds_toArray, List.set_cons_zero, List.set_cons_succ]
        refine takeH 6 103 (.bool true) calm_np rfl rfl (by kernel_rfl) (by kernel_rfl) (by kernel_rfl) (by rfl) (fun W' hSw => by go_simp) hHeld ?_
        try simp only [Act.put, List.setIfInBounds_toArray, List.set_cons_zero, List.set_cons_succ]
        refine takeH 7 104 (.agg #[.slice aw2 nw2 cw2, .slice bw2 mw2 dw2]) calm_np rfl rfl (by kernel_rfl) (by kernel_rfl) (by kernel_rfl) (by rfl) (fun W' hSw => by obtain ⟨g0, g1⟩ := (HXA3.out.below (below_trans HWX.out hSw)).c2; go_simp) hHeld ?_
        try simp only [Act.put, List.setIfInBounds_toArray, List.set_cons_zero, List.set_cons_succ]
        refine takeH 8 105 (.agg #[.slice av s.length cv, .slice au l.length cu]) calm_np rfl rfl (by kernel_rfl) (by kernel_rfl) (by kernel_rfl) (by rfl) (fun W' hSw => by obtain ⟨g0, g1⟩ := (HLC.out.below (below_trans HWX.out hSw)).1.c2; go_simp) hHeld ?_
        try simp only [Act.put, List.setIfInBounds_toArray, List.set_cons_zero, List.set_cons_succ]
        refine takeH 9 106 (.string k) calm_np rfl rfl (by kernel_rfl) (by kernel_rfl) (by kernel_rfl) (by rfl) (fun W' hSw => by go_simp) hHeld ?_
        try simp only [Act.put, List.setIfInBounds_toArray, List.set_cons_zero, List.set_cons_succ]
        refine wpAnyH_ready (rs := [10]) (by kernel_rfl) (by simp) (AllReadyH.cons rfl (fun K hK => ?_) AllReadyH.nil)
        go_simp
        go_at_call 17
        refine (HKR.out _ (below_trans HWX.out hHeld)).mono ?_
        rintro e V1 ⟨v5, u5, rfl, hg5, hz⟩
        obtain ⟨a5, n5, c5, rfl⟩ : ∃ a n c, v5 = .slice a n c := (by obtain ⟨a', c', e⟩ := hg5.1.slice; exact ⟨a', _, c', e⟩)
        obtain ⟨b5, m5, d5, rfl⟩ : ∃ a n c, u5 = .slice a n c := (by obtain ⟨a', c', e⟩ := hg5.2.slice; exact ⟨a', _, c', e⟩)
        have hlk := Like_yes (HA3.out.below (below_trans HWX.out (below_trans hHeld hz))) hg5
        have hh := below_trans hHeld hz
        clear hz
        go_simp
        refine hK.out _ _ hh (fun hHeld => ?_)
        clear hK hh
        try simp only [Act.put, List.setIfInBounds_toArray, List.set_cons_zero, List.set_cons_succ]
        refine wpAnyH_ready (rs := [11]) (by kernel_rfl) (by simp) (AllReadyH.cons rfl (fun K hK => ?_) AllReadyH.nil)
        go_simp
        go_at_call 14
        refine (hlk).mono ?_
        rintro e V2 ⟨rfl, hz⟩
        have hh := below_trans hHeld hz
        clear hz
        go_simp
        refine hK.out _ _ hh (fun hHeld => ?_)
        clear hK hh
        try simp only [Act.put, List.setIfInBounds_toArray, List.set_cons_zero, List.set_cons_succ]
        refine takeH 12 109 (.bool false) calm_np rfl rfl (by kernel_rfl) (by kernel_rfl) (by kernel_rfl) (by rfl) (fun W' hSw => by go_simp) hHeld ?_
        try simp only [Act.put, List.setIfInBounds_toArray, List.set_cons_zero, List.set_cons_succ]
        refine takeH 13 110 (.bool false) calm_np rfl rfl (by kernel_rfl) (by kernel_rfl) (by kernel_rfl) (by rfl) (fun W' hSw => by go_simp) hHeld ?_
        try simp only [Act.put, List.setIfInBounds_toArray, List.set_cons_zero, List.set_cons_succ]
        refine takeH 14 111 (.bool false) calm_np rfl rfl (by kernel_rfl) (by kernel_rfl) (by kernel_rfl) (by rfl) (fun W' hSw => by go_simp) hHeld ?_
        try simp only [Act.put, List.setIfInBounds_toArray, List.set_cons_zero, List.set_cons_succ]
        refine takeH 15 112 (.bool false) calm_np rfl rfl (by kernel_rfl) (by kernel_rfl) (by kernel_rfl) (by rfl) (fun W' hSw => by go_simp) hHeld ?_
        try simp only [Act.put, List.setIfInBounds_toArray, List.set_cons_zero, List.set_cons_succ]
        refine takeH 16 113 (.int .i64 z) calm_np rfl rfl (by kernel_rfl) (by kernel_rfl) (by kernel_rfl) (by rfl) (fun W' hSw => by go_simp) hHeld ?_
        try simp only [Act.put, List.setIfInBounds_toArray, List.set_cons_zero, List.set_cons_succ]
        refine takeH 17 114 (.bool false) calm_np rfl rfl (by kernel_rfl) (by kernel_rfl) (by kernel_rfl) (by rfl) (fun W' hSw => by go_simp) hHeld ?_
        try simp only [Act.put, List.setIfInBounds_toArray, List.set_cons_zero, List.set_cons_succ]
        refine takeH 18 115 (.bool false) calm_np rfl rfl (by kernel_rfl) (by kernel_rfl) (by kernel_rfl) (by rfl) (fun W' hSw => by go_simp) hHeld ?_
        try simp only [Act.put, List.setIfInBounds_toArray, List.set_cons_zero, List.set_cons_succ]
        refine skipH 19 116 calm_np rfl rfl (by kernel_rfl) (by kernel_rfl) (by kernel_rfl) (by rfl) hHeld ?_
        try simp only [Act.put, List.setIfInBounds_toArray, List.set_cons_zero, List.set_cons_succ]
        refine skipH 20 117 calm_np rfl rfl (by kernel_rfl) (by kernel_rfl) (by kernel_rfl) (by rfl) hHeld ?_
        try simp only [Act.put, List.setIfInBounds_toArray, List.set_cons_zero, List.set_cons_succ]
        refine skipH 21 118 calm_np rfl rfl (by kernel_rfl) (by kernel_rfl) (by kernel_rfl) (by rfl) hHeld ?_
        try simp only [Act.put, List.setIfInBounds_toArray, List.set_cons_zero, List.set_cons_succ]
        refine skipH 22 119 calm_np rfl rfl (by kernel_rfl) (by kernel_rfl) (by kernel_rfl) (by rfl) hHeld ?_
        try simp only [Act.put, List.setIfInBounds_toArray, List.set_cons_zero, List.set_cons_succ]
        refine takeH 23 120 (.bool false) calm_np rfl rfl (by kernel_rfl) (by kernel_rfl) (by kernel_rfl) (by rfl) (fun W' hSw => by go_simp) hHeld ?_
        try simp only [Act.put, List.setIfInBounds_toArray, List.set_cons_zero, List.set_cons_succ]
        refine takeH 24 121 (.bool false) calm_np rfl rfl (by kernel_rfl) (by kernel_rfl) (by kernel_rfl) (by rfl) (fun W' hSw => by go_simp) hHeld ?_
        try simp only [Act.put, List.setIfInBounds_toArray, List.set_cons_zero, List.set_cons_succ]
        refine wpAnyH_done (by kernel_rfl) ?_ _
        refine NoPanic.normal ?_
        go_wp2_with fail
        go_meet
        exact ⟨rfl, below_trans HWX.out hHeld⟩
      · obtain ⟨i1, i2⟩ := HN2.out hz0
        rw [i1, i2] at HA3
        have hWX := HW8.out
        clear i1 i2 HHS HWY HRR HRI HAL HKN HRU HFO HQ2 HN2 HQ3 HN3 HW8 HKR
        generalize knowE s l k = z at *
        have e1 : (z == 0) = false := by simpa using hz0
        have e2 : (z != 0) = true := by simpa using hz0
        clear hz0
        have HWX := Lib.hid hWX
        clear hWX
        refine wp_region_noPanic ?_
        refine wp_region_held_drew (S := fun W' => Below WX.heap.size WX W') (by kernel_rfl) (dr WX) (fun hHeld => ?_)
        try simp only [Act.put, List.setIfInBounds_toArray, List.set_cons_zero, List.set_cons_succ]
        refine takeH 0 97 (.int .i64 z) calm_np rfl rfl (by kernel_rfl) (by kernel_rfl) (by kernel_rfl) (by rfl) (fun W' hSw => by go_simp) hHeld ?_
        try simp only [Act.put, List.setIfInBounds_toArray, List.set_cons_zero, List.set_cons_succ]
        refine takeH 1 98 (.int .i64 z) calm_np rfl rfl (by kernel_rfl) (by kernel_rfl) (by kernel_rfl) (by rfl) (fun W' hSw => by go_simp) hHeld ?_
        try simp only [Act.put, List.setIfInBounds_toArray, List.set_cons_zero, List.set_cons_succ]
        refine takeH 2 99 (.bool false) calm_np rfl rfl (by kernel_rfl) (by kernel_rfl) (by kernel_rfl) (by rfl) (fun W' hSw => by go_simp) hHeld ?_
        try simp only [Act.put, List.setIfInBounds_toArray, List.set_cons_zero, List.set_cons_succ]
        refine takeH 3 100 (.bool false) calm_np rfl rfl (by kernel_rfl) (by kernel_rfl) (by kernel_rfl) (by rfl) (fun W' hSw => by go_simp) hHeld ?_
        try simp only [Act.put, List.setIfInBounds_toArray, List.set_cons_zero, List.set_cons_succ]
        refine takeH 4 101 (.int .i64 z) calm_np rfl rfl (by kernel_rfl) (by kernel_rfl) (by kernel_rfl) (by rfl) (fun W' hSw => by go_simp) hHeld ?_
        try simp only [Act.put, List.setIfInBounds_toArray, List.set_cons_zero, List.set_cons_succ]
        refine takeH 5 102 (.bool false) calm_np rfl rfl (by kernel_rfl) (by kernel_rfl) (by kernel_rfl) (by rfl) (fun W' hSw => by go_simp) hHeld ?_
        try simp only [Act.put, List.setIfInBounds_toArray, List.set_cons_zero, List.set_cons_succ]
        refine takeH 6 103 (.bool false) calm_np rfl rfl (by kernel_rfl) (by kernel_rfl) (by kernel_rfl) (by rfl) (fun W' hSw => by go_simp) hHeld ?_
        try simp only [Act.put, List.setIfInBounds_toArray, List.set_cons_zero, List.set_cons_succ]
        refine skipH 7 104 calm_np rfl rfl (by kernel_rfl) (by kernel_rfl) (by kernel_rfl) (by rfl) hHeld ?_
        try simp only [Act.put, List.setIfInBounds_toArray, List.set_cons_zero, List.set_cons_succ]
        refine skipH 8 105 calm_np rfl rfl (by kernel_rfl) (by kernel_rfl) (by kernel_rfl) (by rfl) hHeld ?_
        try simp only [Act.put, List.setIfInBounds_toArray, List.set_cons_zero, List.set_cons_succ]
        refine skipH 9 106 calm_np rfl rfl (by kernel_rfl) (by kernel_rfl) (by kernel_rfl) (by rfl) hHeld ?_
        try simp only [Act.put, List.setIfInBounds_toArray, List.set_cons_zero, List.set_cons_succ]
        refine skipH 10 107 calm_np rfl rfl (by kernel_rfl) (by kernel_rfl) (by kernel_rfl) (by rfl) hHeld ?_
        try simp only [Act.put, List.setIfInBounds_toArray, List.set_cons_zero, List.set_cons_succ]
        refine skipH 11 108 calm_np rfl rfl (by kernel_rfl) (by kernel_rfl) (by kernel_rfl) (by rfl) hHeld ?_
        try simp only [Act.put, List.setIfInBounds_toArray, List.set_cons_zero, List.set_cons_succ]
        refine skipH 12 109 calm_np rfl rfl (by kernel_rfl) (by kernel_rfl) (by kernel_rfl) (by rfl) hHeld ?_
        try simp only [Act.put, List.setIfInBounds_toArray, List.set_cons_zero, List.set_cons_succ]
        refine takeH 13 110 (.bool false) calm_np rfl rfl (by kernel_rfl) (by kernel_rfl) (by kernel_rfl) (by rfl) (fun W' hSw => by go_simp) hHeld ?_
        try simp only [Act.put, List.setIfInBounds_toArray, List.set_cons_zero, List.set_cons_succ]
        refine takeH 14 111 (.bool false) calm_np rfl rfl (by kernel_rfl) (by kernel_rfl) (by kernel_rfl) (by rfl) (fun W' hSw => by go_simp) hHeld ?_
        try simp only [Act.put, List.setIfInBounds_toArray, List.set_cons_zero, List.set_cons_succ]
        refine takeH 15 112 (.bool false) calm_np rfl rfl (by kernel_rfl) (by kernel_rfl) (by kernel_rfl) (by rfl) (fun W' hSw => by go_simp) hHeld ?_
        try simp only [Act.put, List.setIfInBounds_toArray, List.set_cons_zero, List.set_cons_succ]
        refine takeH 16 113 (.int .i64 z) calm_np rfl rfl (by kernel_rfl) (by kernel_rfl) (by kernel_rfl) (by rfl) (fun W' hSw => by go_simp) hHeld ?_
        try simp only [Act.put, List.setIfInBounds_toArray, List.set_cons_zero, List.set_cons_succ]
        refine takeH 17 114 (.bool true) calm_np rfl rfl (by kernel_rfl) (by kernel_rfl) (by kernel_rfl) (by rfl) (fun W' hSw => by go_simp) hHeld ?_
        try simp only [Act.put, List.setIfInBounds_toArray, List.set_cons_zero, List.set_cons_succ]
        refine takeH 18 115 (.bool true) calm_np rfl rfl (by kernel_rfl) (by kernel_rfl) (by kernel_rfl) (by rfl) (fun W' hSw => by go_simp) hHeld ?_
        try simp only [Act.put, List.setIfInBounds_toArray, List.set_cons_zero, List.set_cons_succ]
        refine takeH 19 116 (.agg #[.slice aw2 nw2 cw2, .slice bw2 mw2 dw2]) calm_np rfl rfl (by kernel_rfl) (by kernel_rfl) (by kernel_rfl) (by rfl) (fun W' hSw => by obtain ⟨g0, g1⟩ := (HXA3.out.below (below_trans HWX.out hSw)).c2; go_simp) hHeld ?_
        try simp only [Act.put, List.setIfInBounds_toArray, List.set_cons_zero, List.set_cons_succ]
        refine takeH 20 117 (.agg #[.slice none 0 0, .slice none 0 0]) calm_np rfl rfl (by kernel_rfl) (by kernel_rfl) (by kernel_rfl) (by rfl) (fun W' hSw => by obtain ⟨g0, g1⟩ := (HXN.out.below (below_trans HWX.out hSw)).c2; go_simp) hHeld ?_
        try simp only [Act.put, List.setIfInBounds_toArray, List.set_cons_zero, List.set_cons_succ]
        refine wpAnyH_ready (rs := [21]) (by kernel_rfl) (by simp) (AllReadyH.cons rfl (fun K hK => ?_) AllReadyH.nil)
        go_simp
        go_at_call 14
        refine (Like_yes (HA3.out.below (below_trans HWX.out hHeld)) (none_good _)).mono ?_
        rintro e V2 ⟨rfl, hz⟩
        have hh := below_trans hHeld hz
        clear hz
        go_simp
        refine hK.out _ _ hh (fun hHeld => ?_)
        clear hK hh
        try simp only [Act.put, List.setIfInBounds_toArray, List.set_cons_zero, List.set_cons_succ]
        refine takeH 22 119 (.bool false) calm_np rfl rfl (by kernel_rfl) (by kernel_rfl) (by kernel_rfl) (by rfl) (fun W' hSw => by go_simp) hHeld ?_
        try simp only [Act.put, List.setIfInBounds_toArray, List.set_cons_zero, List.set_cons_succ]
        refine takeH 23 120 (.bool false) calm_np rfl rfl (by kernel_rfl) (by kernel_rfl) (by kernel_rfl) (by rfl) (fun W' hSw => by go_simp) hHeld ?_
        try simp only [Act.put, List.setIfInBounds_toArray, List.set_cons_zero, List.set_cons_succ]
        refine takeH 24 121 (.bool false) calm_np rfl rfl (by kernel_rfl) (by kernel_rfl) (by kernel_rfl) (by rfl) (fun W' hSw => by go_simp) hHeld ?_
        try simp only [Act.put, List.setIfInBounds_toArray, List.set_cons_zero, List.set_cons_succ]
        refine wpAnyH_done (by kernel_rfl) ?_ _
        refine NoPanic.normal ?_
        go_wp2_with fail
        go_meet
        exact ⟨rfl, below_trans HWX.out hHeld⟩
    case rest =>
    obtain ⟨rfl, hW9⟩ := hcut
    rename World => W9
    have HW9 := Lib.hid hW9
    clear hW9 HW8 HWY
    obtain ⟨x0', x1'⟩ := (HLC.out.below HW9.out).1.c2
    have hs0 := (HLC.out.below HW9.out).1.1
    obtain ⟨hb, hhb⟩ : ∃ hb, hasB s k = hb := ⟨_, rfl⟩
    rw [hhb] at HHS
    have HHB := Lib.hid hhb
    clear hhb
    go_wp2_with fail
    (with_reducible refine (HHS.out _ HW9.out).mono ?_)
    rintro e w10 ⟨rfl, hz⟩
    have HW10 := Lib.hid (below_trans HW9.out hz)
    clear hz x0' x1' hs0
    go_upto_if 126 with (fail)
    go_cut [] from 127 to 145 (fun wx => Below W5.heap.size W5 wx)
    case first =>
      cases hb with
      | false =>
        have e1 : forE s l k = 8 := by unfold forE; rw [HR1.out, HHB.out]; rfl
        have e2 : (forG s l k).length = 0 := by unfold forG; rw [HR1.out, HHB.out]; rfl
        go_wp2_with fail
        go_meet
        exact HW10.out
      | true =>
        have e1 : forE s l k = 0 := by unfold forE; rw [HR1.out, HHB.out]; rfl
        have e2 : forG s l k = forL k l := by unfold forG; rw [HR1.out, HHB.out]; rfl
        have HFR := Lib.hid (fun W (hW : Below W5.heap.size W5 W) => refFor_any (HGG.out.below (below_trans HWC.out hW)) HSH.out.2.1 k)
        have HE2 := Lib.hid e2
        clear e2 HFO
        generalize forE s l k = yE at *
        have e2 : (yE != 0) = false := by simpa using e1
        clear e1
        obtain ⟨x0', x1'⟩ := (HLC.out.below HW10.out).1.c2
        have hs0 := (HLC.out.below HW10.out).1.1
        go_wp2_with fail
        (with_reducible refine (HFR.out _ HW10.out).mono ?_)
        rintro e w11 ⟨v11, rfl, hg11, hz⟩
        have HW11 := Lib.hid (below_trans HW10.out hz)
        rw [← HE2.out] at hg11
        have HLK := Lib.hid (Like_yes (s := []) ⟨.nil _, HF3.out.below HW11.out⟩ ⟨.nil _, hg11⟩)
        obtain ⟨a11, c11, rfl⟩ := hg11.slice
        clear hz hg11
        go_wp2_with fail
        (with_reducible refine HLK.out.mono ?_)
        rintro e w12 ⟨rfl, hz⟩
        have HW12 := Lib.hid (below_trans HW11.out hz)
        clear hz
        go_wp2_with fail
        go_meet
        exact HW12.out
    case rest =>
    rename World => W11
    have HW11 := Lib.hid hcut
    clear hcut HW10 HW9 HHS HHB
    obtain ⟨x0', x1'⟩ := (HLC.out.below HW11.out).1.c2
    have hs0 := (HLC.out.below HW11.out).1.1
    go_wp2_with fail
    clear x0' x1' hs0
    go_loopw [15, 17, 149] (fun t _ i wr => ∃ j : Nat, j ≤ l.length ∧ i = .int .i64 j ∧ t = .bool ((l.take j).any (fun o => twB o x)) ∧ Below W11.heap.size W11 wr) (fun _ _ i _ => l.length - (RowKit.intOf i).toNat)
    case atStart => exact ⟨0, Nat.zero_le _, rfl, rfl, Below.refl _ _⟩
    case round =>
      obtain ⟨j, hj, rfl, rfl, hbe⟩ := hrel
      have HBE := Lib.hid hbe
      have HW12 := Lib.hid (below_trans HW11.out hbe)
      clear hbe
      by_cases hlt : j < l.length
      · obtain ⟨bb, off, rfl, _, _, hbb, k0', k1, k2, k3, k4⟩ := (HGG.out.2.below (below_trans HWC.out HW12.out)).at hlt
        have ha := al wr (.cells (sl l[j]).toArray 27)
        have HAT := Lib.hid (any_take (p := fun o => twB o x) hlt)
        unfold sl at ha
        generalize l[j] = o at *
        have HB3' := Lib.hid (below_trans HBE.out ha)
        obtain ⟨y0, y1, y2, y3, y4⟩ := (HLC.out.below (below_trans HW12.out ha)).2.1.c5
        have hsy := (HLC.out.below (below_trans HW12.out ha)).2.1.1
        clear ha
        cases hc : (l.take j).any (fun o => twB o x) with
        | true =>
          have HN : Hid ((l.take (j + 1)).any (fun o => twB o x) = true) := Lib.hid (by rw [HAT.out, hc]; rfl)
          clear HAT hc
          go_wp2_with fail
          go_roundw
          case rel => exact ⟨j + 1, by omega, by go_num, by rw [HN.out], HB3'.out⟩
          case measure => simp [RowKit.intOf]; omega
        | false =>
          have HAT2 : Hid ((l.take (j + 1)).any (fun o => twB o x) = twB o x) := Lib.hid (by rw [HAT.out, hc, Bool.false_or])
          clear HAT hc
          by_cases h1 : o.f = x.f
          · have e1 := bytes_yes h1
            by_cases h2 : o.r = x.r
            · have e2 : (o.r == x.r) = true := by simpa using h2
              have HN : Hid ((l.take (j + 1)).any (fun o => twB o x) = true) := Lib.hid (by rw [HAT2.out]; unfold twB; simp [h1, h2])
              clear h1 h2 HAT2
              go_wp2_with fail
              go_roundw
              case rel => exact ⟨j + 1, by omega, by go_num, by rw [HN.out], HB3'.out⟩
              case measure => simp [RowKit.intOf]; omega
            · have e2 : (o.r == x.r) = false := by simpa using h2
              by_cases h3 : o.t = x.t
              · have e3 := bytes_yes h3
                have HN : Hid ((l.take (j + 1)).any (fun o => twB o x) = true) := Lib.hid (by rw [HAT2.out]; unfold twB; simp [h1, h3])
                clear h1 h2 h3 HAT2
                go_wp2_with fail
                go_roundw
                case rel => exact ⟨j + 1, by omega, by go_num, by rw [HN.out], HB3'.out⟩
                case measure => simp [RowKit.intOf]; omega
              · have e3 := bytes_no h3
                have HN : Hid ((l.take (j + 1)).any (fun o => twB o x) = false) := Lib.hid (by rw [HAT2.out]; unfold twB; simp [h2, h3])
                clear h1 h2 h3 HAT2
                go_wp2_with fail
                go_roundw
                case rel => exact ⟨j + 1, by omega, by go_num, by rw [HN.out], HB3'.out⟩
                case measure => simp [RowKit.intOf]; omega
          · have e1 := bytes_no h1
            have HN : Hid ((l.take (j + 1)).any (fun o => twB o x) = false) := Lib.hid (by rw [HAT2.out]; unfold twB; simp [h1])
            clear h1 HAT2
            go_wp2_with fail
            go_roundw
            case rel => exact ⟨j + 1, by omega, by go_num, by rw [HN.out], HB3'.out⟩
            case measure => simp [RowKit.intOf]; omega
      · obtain rfl : j = l.length := by omega
        have hcl : (l.take l.length).any (fun o => twB o x) = l.any (fun o => clashB o x) := by
          rw [List.take_length]
          congr 1
          funext o
          exact tw_clash o x
        rw [hcl]
        have HRWY := Lib.hid (rule_ways s l x)
        have hmx := fun W => refMay_any x HSX.out W
        have HHF := Lib.hid (fun W (hW : Below W5.heap.size W5 W) => refHas_any (HGG.out.1.below (below_trans HWC.out hW)) HSH.out.1 x.f)
        have HHT := Lib.hid (fun W (hW : Below W5.heap.size W5 W) => refHas_any (HGG.out.1.below (below_trans HWC.out hW)) HSH.out.1 x.t)
        unfold sv at hmx
        have HMX := Lib.hid hmx
        clear hcl hmx HBE HW11
        rename World => W12
        go_upto_block 3 with (fail)
        go_cut [14] from 176 to 201 (fun z wx => z = .int .i64 (ruleE s l x) ∧ Below W5.heap.size W5 wx)
        case first =>
          clear HQ2 HN2 HQ3 HN3 HKN HRU HFO
          generalize ruleE s l x = z at *
          generalize l.any (fun o => clashB o x) = cl at *
          unfold amongB at HRWY
          obtain ⟨y0, y1, y2, y3, y4⟩ := (HLC.out.below HW12.out).2.1.c5
          have hsy := (HLC.out.below HW12.out).2.1.1
          have hrw := HRWY.out
          clear HRWY
          cases hm : mayB x with
          | false =>
            rw [hm] at HMX
            obtain rfl : z = 1 := by
              rcases hrw with ⟨_, e⟩ | ⟨_, _, e⟩ | ⟨_, e2, _⟩ | ⟨_, e2, _⟩ | ⟨_, e2, _⟩ | ⟨_, e2, _⟩
              · exact e
              · exact e
              all_goals (rw [hm] at e2; cases e2)
            clear hrw hm
            go_wp2_with fail
            (with_reducible refine (HMX.out _).mono ?_)
            rintro e w13 ⟨rfl, hz⟩
            have HW13 := Lib.hid (below_trans HW12.out hz)
            clear hz
            go_wp2_with fail
            go_meet
            exact ⟨rfl, HW13.out⟩
          | true =>
            rw [hm] at HMX
            cases hf : hasB s x.f with
            | false =>
              rw [hf] at HHF hrw
              obtain rfl : z = 8 := by
                rcases hrw with ⟨e1, e⟩ | ⟨_, e2, e⟩ | ⟨_, _, _, e⟩ | ⟨_, _, e3, _⟩ | ⟨_, _, e3, _⟩ | ⟨_, _, e3, _⟩
                · rw [HR1.out] at e1; cases e1
                · rw [hm] at e2; cases e2
                · exact e
                all_goals (simp at e3)
              clear hrw hm hf
              go_wp2_with fail
              (with_reducible refine (HMX.out _).mono ?_)
              rintro e w13 ⟨rfl, hz⟩
              have HW13 := Lib.hid (below_trans HW12.out hz)
              clear hz y0 y1 y2 y3 y4 hsy
              obtain ⟨q0, q1⟩ := (HLC.out.below HW13.out).1.c2
              have hsq := (HLC.out.below HW13.out).1.1
              obtain ⟨y0, y1, y2, y3, y4⟩ := (HLC.out.below HW13.out).2.1.c5
              have hsy := (HLC.out.below HW13.out).2.1.1
              go_wp2_with fail
              (with_reducible refine (HHF.out _ HW13.out).mono ?_)
              rintro e w14 ⟨rfl, hz⟩
              have HW14 := Lib.hid (below_trans HW13.out hz)
              clear hz q0 q1 hsq y0 y1 y2 y3 y4 hsy
              go_wp2_with fail
              go_meet
              exact ⟨rfl, HW14.out⟩
            | true =>
              rw [hf] at HHF hrw
              cases ht : hasB s x.t with
              | false =>
                rw [ht] at HHT hrw
                obtain rfl : z = 8 := by
                  rcases hrw with ⟨e1, e⟩ | ⟨_, e2, e⟩ | ⟨_, _, _, e⟩ | ⟨_, _, e3, _⟩ | ⟨_, _, e3, _⟩ | ⟨_, _, e3, _⟩
                  · rw [HR1.out] at e1; cases e1
                  · rw [hm] at e2; cases e2
                  · exact e
                  all_goals (simp at e3)
                clear hrw hm hf ht
                go_wp2_with fail
                (with_reducible refine (HMX.out _).mono ?_)
                rintro e w13 ⟨rfl, hz⟩
                have HW13 := Lib.hid (below_trans HW12.out hz)
                clear hz y0 y1 y2 y3 y4 hsy
                obtain ⟨q0, q1⟩ := (HLC.out.below HW13.out).1.c2
                have hsq := (HLC.out.below HW13.out).1.1
                obtain ⟨y0, y1, y2, y3, y4⟩ := (HLC.out.below HW13.out).2.1.c5
                have hsy := (HLC.out.below HW13.out).2.1.1
                go_wp2_with fail
                (with_reducible refine (HHF.out _ HW13.out).mono ?_)
                rintro e w14 ⟨rfl, hz⟩
                have HW14 := Lib.hid (below_trans HW13.out hz)
                clear hz q0 q1 hsq y0 y1 y2 y3 y4 hsy
                obtain ⟨q0, q1⟩ := (HLC.out.below HW14.out).1.c2
                have hsq := (HLC.out.below HW14.out).1.1
                obtain ⟨y0, y1, y2, y3, y4⟩ := (HLC.out.below HW14.out).2.1.c5
                have hsy := (HLC.out.below HW14.out).2.1.1
                go_wp2_with fail
                (with_reducible refine (HHT.out _ HW14.out).mono ?_)
                rintro e w15 ⟨rfl, hz⟩
                have HW15 := Lib.hid (below_trans HW14.out hz)
                clear hz q0 q1 hsq y0 y1 y2 y3 y4 hsy
                go_wp2_with fail
                go_meet
                exact ⟨rfl, HW15.out⟩
              | true =>
                rw [ht] at HHT hrw
                rcases hrw with ⟨e1, e⟩ | ⟨_, e2, e⟩ | ⟨_, _, e3, e⟩ | ⟨_, _, _, e4, rfl⟩ | ⟨_, _, _, e4, e5, rfl⟩ | ⟨_, _, _, e4, e5, rfl⟩
                · rw [HR1.out] at e1; cases e1
                · rw [hm] at e2; cases e2
                · simp at e3
                · subst e4
                  clear hm hf ht
                  go_wp2_with fail
                  (with_reducible refine (HMX.out _).mono ?_)
                  rintro e w13 ⟨rfl, hz⟩
                  have HW13 := Lib.hid (below_trans HW12.out hz)
                  clear hz y0 y1 y2 y3 y4 hsy
                  obtain ⟨q0, q1⟩ := (HLC.out.below HW13.out).1.c2
                  have hsq := (HLC.out.below HW13.out).1.1
                  obtain ⟨y0, y1, y2, y3, y4⟩ := (HLC.out.below HW13.out).2.1.c5
                  have hsy := (HLC.out.below HW13.out).2.1.1
                  go_wp2_with fail
                  (with_reducible refine (HHF.out _ HW13.out).mono ?_)
                  rintro e w14 ⟨rfl, hz⟩
                  have HW14 := Lib.hid (below_trans HW13.out hz)
                  clear hz q0 q1 hsq y0 y1 y2 y3 y4 hsy
                  obtain ⟨q0, q1⟩ := (HLC.out.below HW14.out).1.c2
                  have hsq := (HLC.out.below HW14.out).1.1
                  obtain ⟨y0, y1, y2, y3, y4⟩ := (HLC.out.below HW14.out).2.1.c5
                  have hsy := (HLC.out.below HW14.out).2.1.1
                  go_wp2_with fail
                  (with_reducible refine (HHT.out _ HW14.out).mono ?_)
                  rintro e w15 ⟨rfl, hz⟩
                  have HW15 := Lib.hid (below_trans HW14.out hz)
                  clear hz q0 q1 hsq y0 y1 y2 y3 y4 hsy
                  go_wp2_with fail
                  go_meet
                  exact ⟨rfl, HW15.out⟩
                · subst e4
                  have HE5 := Lib.hid e5
                  clear hm hf ht e5
                  go_wp2_with fail
                  (with_reducible refine (HMX.out _).mono ?_)
                  rintro e w13 ⟨rfl, hz⟩
                  have HW13 := Lib.hid (below_trans HW12.out hz)
                  clear hz y0 y1 y2 y3 y4 hsy
                  obtain ⟨q0, q1⟩ := (HLC.out.below HW13.out).1.c2
                  have hsq := (HLC.out.below HW13.out).1.1
                  obtain ⟨y0, y1, y2, y3, y4⟩ := (HLC.out.below HW13.out).2.1.c5
                  have hsy := (HLC.out.below HW13.out).2.1.1
                  go_wp2_with fail
                  (with_reducible refine (HHF.out _ HW13.out).mono ?_)
                  rintro e w14 ⟨rfl, hz⟩
                  have HW14 := Lib.hid (below_trans HW13.out hz)
                  clear hz q0 q1 hsq y0 y1 y2 y3 y4 hsy
                  obtain ⟨q0, q1⟩ := (HLC.out.below HW14.out).1.c2
                  have hsq := (HLC.out.below HW14.out).1.1
                  obtain ⟨y0, y1, y2, y3, y4⟩ := (HLC.out.below HW14.out).2.1.c5
                  have hsy := (HLC.out.below HW14.out).2.1.1
                  go_wp2_with fail
                  (with_reducible refine (HHT.out _ HW14.out).mono ?_)
                  rintro e w15 ⟨rfl, hz⟩
                  have HW15 := Lib.hid (below_trans HW14.out hz)
                  clear hz q0 q1 hsq y0 y1 y2 y3 y4 hsy
                  have e5 : ((l.length : Int) == 16) = true := by rw [HE5.out]; rfl
                  obtain ⟨q0, q1⟩ := (HLC.out.below HW15.out).1.c2
                  have hsq := (HLC.out.below HW15.out).1.1
                  go_wp2_with fail
                  go_meet
                  exact ⟨rfl, HW15.out⟩
                · subst e4
                  have HE5 := Lib.hid e5
                  clear hm hf ht e5
                  go_wp2_with fail
                  (with_reducible refine (HMX.out _).mono ?_)
                  rintro e w13 ⟨rfl, hz⟩
                  have HW13 := Lib.hid (below_trans HW12.out hz)
                  clear hz y0 y1 y2 y3 y4 hsy
                  obtain ⟨q0, q1⟩ := (HLC.out.below HW13.out).1.c2
                  have hsq := (HLC.out.below HW13.out).1.1
                  obtain ⟨y0, y1, y2, y3, y4⟩ := (HLC.out.below HW13.out).2.1.c5
                  have hsy := (HLC.out.below HW13.out).2.1.1
                  go_wp2_with fail
                  (with_reducible refine (HHF.out _ HW13.out).mono ?_)
                  rintro e w14 ⟨rfl, hz⟩
                  have HW14 := Lib.hid (below_trans HW13.out hz)
                  clear hz q0 q1 hsq y0 y1 y2 y3 y4 hsy
                  obtain ⟨q0, q1⟩ := (HLC.out.below HW14.out).1.c2
                  have hsq := (HLC.out.below HW14.out).1.1
                  obtain ⟨y0, y1, y2, y3, y4⟩ := (HLC.out.below HW14.out).2.1.c5
                  have hsy := (HLC.out.below HW14.out).2.1.1
                  go_wp2_with fail
                  (with_reducible refine (HHT.out _ HW14.out).mono ?_)
                  rintro e w15 ⟨rfl, hz⟩
                  have HW15 := Lib.hid (below_trans HW14.out hz)
                  clear hz q0 q1 hsq y0 y1 y2 y3 y4 hsy
                  have e5 : ((l.length : Int) == 16) = false := by have := HE5.out; simpa using (by omega : ¬ ((l.length : Int) = 16))
                  obtain ⟨q0, q1⟩ := (HLC.out.below HW15.out).1.c2
                  have hsq := (HLC.out.below HW15.out).1.1
                  go_wp2_with fail
                  go_meet
                  exact ⟨rfl, HW15.out⟩
        case rest =>
        obtain ⟨rfl, hW13⟩ := hcut
        rename World => WX
        have hrr := fun W (hW : Below W5.heap.size W5 W) => refRule_any (HGG.out.below (below_trans HWC.out hW)) HSH.out.2.1 HSH.out.2.2.2 x HSX.out
        unfold sv at hrr
        have HRR2 := Lib.hid hrr
        have hWX := hW13
        clear hrr hW13 HMX HHF HHT HRWY HW12
        go_upto_region 39 with (fail)
        by_cases hz0 : ruleE s l x = 0
        · obtain ⟨i1, i2⟩ := HQ3.out hz0
          rw [i1, i2, rule_ref hz0] at HB3
          clear i1 i2 HRR HRI HAL HKN HRU HFO HQ2 HN2 HQ3 HN3
          generalize ruleE s l x = z at *
          have e1 : (z == 0) = true := by simpa using hz0
          have e2 : (z != 0) = false := by simpa using hz0
          clear hz0
          have HWX := Lib.hid hWX
          clear hWX
          refine wp_region_noPanic ?_
          refine wp_region_held_drew (S := fun W' => Below WX.heap.size WX W') (by kernel_rfl) (dr WX) (fun hHeld => ?_)
          try simp only [Act.put, List.setIfInBounds_toArray, List.set_cons_zero, List.set_cons_succ]
          refine takeH 0 202 (.int .i64 z) calm_np rfl rfl (by kernel_rfl) (by kernel_rfl) (by kernel_rfl) (by rfl) (fun W' hSw => by go_simp) hHeld ?_
          try simp only [Act.put, List.setIfInBounds_toArray, List.set_cons_zero, List.set_cons_succ]
          refine takeH 1 203 (.int .i64 z) calm_np rfl rfl (by kernel_rfl) (by kernel_rfl) (by kernel_rfl) (by rfl) (fun W' hSw => by go_simp) hHeld ?_
          try simp only [Act.put, List.setIfInBounds_toArray, List.set_cons_zero, List.set_cons_succ]
          refine takeH 2 204 (.bool true) calm_np rfl rfl (by kernel_rfl) (by kernel_rfl) (by kernel_rfl) (by rfl) (fun W' hSw => by go_simp) hHeld ?_
          try simp only [Act.put, List.setIfInBounds_toArray, List.set_cons_zero, List.set_cons_succ]
          refine takeH 3 205 (.bool true) calm_np rfl rfl (by kernel_rfl) (by kernel_rfl) (by kernel_rfl) (by rfl) (fun W' hSw => by go_simp) hHeld ?_
          try simp only [Act.put, List.setIfInBounds_toArray, List.set_cons_zero, List.set_cons_succ]
          refine takeH 4 206 (.int .i64 z) calm_np rfl rfl (by kernel_rfl) (by kernel_rfl) (by kernel_rfl) (by rfl) (fun W' hSw => by go_simp) hHeld ?_
          try simp only [Act.put, List.setIfInBounds_toArray, List.set_cons_zero, List.set_cons_succ]
          refine takeH 5 207 (.bool true) calm_np rfl rfl (by kernel_rfl) (by kernel_rfl) (by kernel_rfl) (by rfl) (fun W' hSw => by go_simp) hHeld ?_
          try simp only [Act.put, List.setIfInBounds_toArray, List.set_cons_zero, List.set_cons_succ]
          refine takeH 6 208 (.bool true) calm_np rfl rfl (by kernel_rfl) (by kernel_rfl) (by kernel_rfl) (by rfl) (fun W' hSw => by go_simp) hHeld ?_
          try simp only [Act.put, List.setIfInBounds_toArray, List.set_cons_zero, List.set_cons_succ]
          refine takeH 7 209 (.agg #[.slice aw3 nw3 cw3, .slice bw3 mw3 dw3]) calm_np rfl rfl (by kernel_rfl) (by kernel_rfl) (by kernel_rfl) (by rfl) (fun W' hSw => by obtain ⟨g0, g1⟩ := (HXB3.out.below (below_trans HWX.out hSw)).c2; go_simp) hHeld ?_
          try simp only [Act.put, List.setIfInBounds_toArray, List.set_cons_zero, List.set_cons_succ]
          refine takeH 8 210 (.agg #[.slice av s.length cv, .slice au l.length cu]) calm_np rfl rfl (by kernel_rfl) (by kernel_rfl) (by kernel_rfl) (by rfl) (fun W' hSw => by obtain ⟨g0, g1⟩ := (HLC.out.below (below_trans HWX.out hSw)).1.c2; go_simp) hHeld ?_
          try simp only [Act.put, List.setIfInBounds_toArray, List.set_cons_zero, List.set_cons_succ]
          refine takeH 9 211 (.agg #[.string x.f, .string x.t, .int .i64 x.r, .int .i64 x.n, .int .i64 x.d]) calm_np rfl rfl (by kernel_rfl) (by kernel_rfl) (by kernel_rfl) (by rfl) (fun W' hSw => by obtain ⟨g0, g1, g2, g3, g4⟩ := (HLC.out.below (below_trans HWX.out hSw)).2.1.c5; go_simp) hHeld ?_
          try simp only [Act.put, List.setIfInBounds_toArray, List.set_cons_zero, List.set_cons_succ]
          refine wpAnyH_ready (rs := [10]) (by kernel_rfl) (by simp) (AllReadyH.cons rfl (fun K hK => ?_) AllReadyH.nil)
          go_simp
          go_at_call 20
          refine (HRR2.out _ (below_trans HWX.out hHeld)).mono ?_
          rintro e V1 ⟨v5, u5, rfl, hg5, hz⟩
          obtain ⟨a5, n5, c5, rfl⟩ : ∃ a n c, v5 = .slice a n c := (by obtain ⟨a', c', e⟩ := hg5.1.slice; exact ⟨a', _, c', e⟩)
          obtain ⟨b5, m5, d5, rfl⟩ : ∃ a n c, u5 = .slice a n c := (by obtain ⟨a', c', e⟩ := hg5.2.slice; exact ⟨a', _, c', e⟩)
          have hlk := Like_yes (HB3.out.below (below_trans HWX.out (below_trans hHeld hz))) hg5
          have hh := below_trans hHeld hz
          clear hz
          go_simp
          refine hK.out _ _ hh (fun hHeld => ?_)
          clear hK hh
          try simp only [Act.put, List.setIfInBounds_toArray, List.set_cons_zero, List.set_cons_succ]
          refine wpAnyH_ready (rs := [11]) (by kernel_rfl) (by simp) (AllReadyH.cons rfl (fun K hK => ?_) AllReadyH.nil)
          go_simp
          go_at_call 14
          refine (hlk).mono ?_
          rintro e V2 ⟨rfl, hz⟩
          have hh := below_trans hHeld hz
          clear hz
          go_simp
          refine hK.out _ _ hh (fun hHeld => ?_)
          clear hK hh
          try simp only [Act.put, List.setIfInBounds_toArray, List.set_cons_zero, List.set_cons_succ]
          refine takeH 12 214 (.bool true) calm_np rfl rfl (by kernel_rfl) (by kernel_rfl) (by kernel_rfl) (by rfl) (fun W' hSw => by go_simp) hHeld ?_
          try simp only [Act.put, List.setIfInBounds_toArray, List.set_cons_zero, List.set_cons_succ]
          refine takeH 13 215 (.bool true) calm_np rfl rfl (by kernel_rfl) (by kernel_rfl) (by kernel_rfl) (by rfl) (fun W' hSw => by go_simp) hHeld ?_
          try simp only [Act.put, List.setIfInBounds_toArray, List.set_cons_zero, List.set_cons_succ]
          refine skipH 14 216 calm_np rfl rfl (by kernel_rfl) (by kernel_rfl) (by kernel_rfl) (by rfl) hHeld ?_
          try simp only [Act.put, List.setIfInBounds_toArray, List.set_cons_zero, List.set_cons_succ]
          refine skipH 15 217 calm_np rfl rfl (by kernel_rfl) (by kernel_rfl) (by kernel_rfl) (by rfl) hHeld ?_
          try simp only [Act.put, List.setIfInBounds_toArray, List.set_cons_zero, List.set_cons_succ]
          refine skipH 16 218 calm_np rfl rfl (by kernel_rfl) (by kernel_rfl) (by kernel_rfl) (by rfl) hHeld ?_
          try simp only [Act.put, List.setIfInBounds_toArray, List.set_cons_zero, List.set_cons_succ]
          refine skipH 17 219 calm_np rfl rfl (by kernel_rfl) (by kernel_rfl) (by kernel_rfl) (by rfl) hHeld ?_
          try simp only [Act.put, List.setIfInBounds_toArray, List.set_cons_zero, List.set_cons_succ]
          refine skipH 18 220 calm_np rfl rfl (by kernel_rfl) (by kernel_rfl) (by kernel_rfl) (by rfl) hHeld ?_
          try simp only [Act.put, List.setIfInBounds_toArray, List.set_cons_zero, List.set_cons_succ]
          refine skipH 19 221 calm_np rfl rfl (by kernel_rfl) (by kernel_rfl) (by kernel_rfl) (by rfl) hHeld ?_
          try simp only [Act.put, List.setIfInBounds_toArray, List.set_cons_zero, List.set_cons_succ]
          refine skipH 20 222 calm_np rfl rfl (by kernel_rfl) (by kernel_rfl) (by kernel_rfl) (by rfl) hHeld ?_
          try simp only [Act.put, List.setIfInBounds_toArray, List.set_cons_zero, List.set_cons_succ]
          refine takeH 21 223 (.bool true) calm_np rfl rfl (by kernel_rfl) (by kernel_rfl) (by kernel_rfl) (by rfl) (fun W' hSw => by go_simp) hHeld ?_
          try simp only [Act.put, List.setIfInBounds_toArray, List.set_cons_zero, List.set_cons_succ]
          refine takeH 22 224 (.bool true) calm_np rfl rfl (by kernel_rfl) (by kernel_rfl) (by kernel_rfl) (by rfl) (fun W' hSw => by go_simp) hHeld ?_
          try simp only [Act.put, List.setIfInBounds_toArray, List.set_cons_zero, List.set_cons_succ]
          refine takeH 23 6 (.bool true) calm_np rfl rfl (by kernel_rfl) (by kernel_rfl) (by kernel_rfl) (by rfl) (fun W' hSw => by go_simp) hHeld ?_
          try simp only [Act.put, List.setIfInBounds_toArray, List.set_cons_zero, List.set_cons_succ]
          refine wpAnyH_done (by kernel_rfl) ?_ _
          refine NoPanic.normal ?_
          go_wp2_with fail
          go_ret
          exact ⟨rfl, below_trans (HLC.out.below HWX.out).2.2 hHeld⟩
        · obtain ⟨i1, i2⟩ := HN3.out hz0
          rw [i1, i2] at HB3
          clear i1 i2 HRR HRI HAL HKN HRU HFO HQ2 HN2 HQ3 HN3 HRR2
          generalize ruleE s l x = z at *
          have e1 : (z == 0) = false := by simpa using hz0
          have e2 : (z != 0) = true := by simpa using hz0
          clear hz0
          have HWX := Lib.hid hWX
          clear hWX
          refine wp_region_noPanic ?_
          refine wp_region_held_drew (S := fun W' => Below WX.heap.size WX W') (by kernel_rfl) (dr WX) (fun hHeld => ?_)
          try simp only [Act.put, List.setIfInBounds_toArray, List.set_cons_zero, List.set_cons_succ]
          refine takeH 0 202 (.int .i64 z) calm_np rfl rfl (by kernel_rfl) (by kernel_rfl) (by kernel_rfl) (by rfl) (fun W' hSw => by go_simp) hHeld ?_
          try simp only [Act.put, List.setIfInBounds_toArray, List.set_cons_zero, List.set_cons_succ]
          refine takeH 1 203 (.int .i64 z) calm_np rfl rfl (by kernel_rfl) (by kernel_rfl) (by kernel_rfl) (by rfl) (fun W' hSw => by go_simp) hHeld ?_
          try simp only [Act.put, List.setIfInBounds_toArray, List.set_cons_zero, List.set_cons_succ]
          refine takeH 2 204 (.bool true) calm_np rfl rfl (by kernel_rfl) (by kernel_rfl) (by kernel_rfl) (by rfl) (fun W' hSw => by go_simp) hHeld ?_
          try simp only [Act.put, List.setIfInBounds_toArray, List.set_cons_zero, List.set_cons_succ]
          refine takeH 3 205 (.bool true) calm_np rfl rfl (by kernel_rfl) (by kernel_rfl) (by kernel_rfl) (by rfl) (fun W' hSw => by go_simp) hHeld ?_
          try simp only [Act.put, List.setIfInBounds_toArray, List.set_cons_zero, List.set_cons_succ]
          refine takeH 4 206 (.int .i64 z) calm_np rfl rfl (by kernel_rfl) (by kernel_rfl) (by kernel_rfl) (by rfl) (fun W' hSw => by go_simp) hHeld ?_
          try simp only [Act.put, List.setIfInBounds_toArray, List.set_cons_zero, List.set_cons_succ]
          refine takeH 5 207 (.bool false) calm_np rfl rfl (by kernel_rfl) (by kernel_rfl) (by kernel_rfl) (by rfl) (fun W' hSw => by go_simp) hHeld ?_
          try simp only [Act.put, List.setIfInBounds_toArray, List.set_cons_zero, List.set_cons_succ]
          refine takeH 6 208 (.bool false) calm_np rfl rfl (by kernel_rfl) (by kernel_rfl) (by kernel_rfl) (by rfl) (fun W' hSw => by go_simp) hHeld ?_
          try simp only [Act.put, List.setIfInBounds_toArray, List.set_cons_zero, List.set_cons_succ]
          refine skipH 7 209 calm_np rfl rfl (by kernel_rfl) (by kernel_rfl) (by kernel_rfl) (by rfl) hHeld ?_
          try simp only [Act.put, List.setIfInBounds_toArray, List.set_cons_zero, List.set_cons_succ]
          refine skipH 8 210 calm_np rfl rfl (by kernel_rfl) (by kernel_rfl) (by kernel_rfl) (by rfl) hHeld ?_
          try simp only [Act.put, List.setIfInBounds_toArray, List.set_cons_zero, List.set_cons_succ]
          refine skipH 9 211 calm_np rfl rfl (by kernel_rfl) (by kernel_rfl) (by kernel_rfl) (by rfl) hHeld ?_
          try simp only [Act.put, List.setIfInBounds_toArray, List.set_cons_zero, List.set_cons_succ]
          refine skipH 10 212 calm_np rfl rfl (by kernel_rfl) (by kernel_rfl) (by kernel_rfl) (by rfl) hHeld ?_
          try simp only [Act.put, List.setIfInBounds_toArray, List.set_cons_zero, List.set_cons_succ]
          refine skipH 11 213 calm_np rfl rfl (by kernel_rfl) (by kernel_rfl) (by kernel_rfl) (by rfl) hHeld ?_
          try simp only [Act.put, List.setIfInBounds_toArray, List.set_cons_zero, List.set_cons_succ]
          refine takeH 12 214 (.bool false) calm_np rfl rfl (by kernel_rfl) (by kernel_rfl) (by kernel_rfl) (by rfl) (fun W' hSw => by go_simp) hHeld ?_
          try simp only [Act.put, List.setIfInBounds_toArray, List.set_cons_zero, List.set_cons_succ]
          refine takeH 13 215 (.bool false) calm_np rfl rfl (by kernel_rfl) (by kernel_rfl) (by kernel_rfl) (by rfl) (fun W' hSw => by go_simp) hHeld ?_
          try simp only [Act.put, List.setIfInBounds_toArray, List.set_cons_zero, List.set_cons_succ]
          refine takeH 14 216 (.int .i64 z) calm_np rfl rfl (by kernel_rfl) (by kernel_rfl) (by kernel_rfl) (by rfl) (fun W' hSw => by go_simp) hHeld ?_
          try simp only [Act.put, List.setIfInBounds_toArray, List.set_cons_zero, List.set_cons_succ]
          refine takeH 15 217 (.bool true) calm_np rfl rfl (by kernel_rfl) (by kernel_rfl) (by kernel_rfl) (by rfl) (fun W' hSw => by go_simp) hHeld ?_
          try simp only [Act.put, List.setIfInBounds_toArray, List.set_cons_zero, List.set_cons_succ]
          refine takeH 16 218 (.bool true) calm_np rfl rfl (by kernel_rfl) (by kernel_rfl) (by kernel_rfl) (by rfl) (fun W' hSw => by go_simp) hHeld ?_
          try simp only [Act.put, List.setIfInBounds_toArray, List.set_cons_zero, List.set_cons_succ]
          refine takeH 17 219 (.agg #[.slice aw3 nw3 cw3, .slice bw3 mw3 dw3]) calm_np rfl rfl (by kernel_rfl) (by kernel_rfl) (by kernel_rfl) (by rfl) (fun W' hSw => by obtain ⟨g0, g1⟩ := (HXB3.out.below (below_trans HWX.out hSw)).c2; go_simp) hHeld ?_
          try simp only [Act.put, List.setIfInBounds_toArray, List.set_cons_zero, List.set_cons_succ]
          refine takeH 18 220 (.agg #[.slice none 0 0, .slice none 0 0]) calm_np rfl rfl (by kernel_rfl) (by kernel_rfl) (by kernel_rfl) (by rfl) (fun W' hSw => by obtain ⟨g0, g1⟩ := (HXN.out.below (below_trans HWX.out hSw)).c2; go_simp) hHeld ?_
          try simp only [Act.put, List.setIfInBounds_toArray, List.set_cons_zero, List.set_cons_succ]
          refine wpAnyH_ready (rs := [19]) (by kernel_rfl) (by simp) (AllReadyH.cons rfl (fun K hK => ?_) AllReadyH.nil)
          go_simp
          go_at_call 14
          refine (Like_yes (HB3.out.below (below_trans HWX.out hHeld)) (none_good _)).mono ?_
          rintro e V2 ⟨rfl, hz⟩
          have hh := below_trans hHeld hz
          clear hz
          go_simp
          refine hK.out _ _ hh (fun hHeld => ?_)
          clear hK hh
          try simp only [Act.put, List.setIfInBounds_toArray, List.set_cons_zero, List.set_cons_succ]
          refine takeH 20 222 (.bool true) calm_np rfl rfl (by kernel_rfl) (by kernel_rfl) (by kernel_rfl) (by rfl) (fun W' hSw => by go_simp) hHeld ?_
          try simp only [Act.put, List.setIfInBounds_toArray, List.set_cons_zero, List.set_cons_succ]
          refine takeH 21 223 (.bool true) calm_np rfl rfl (by kernel_rfl) (by kernel_rfl) (by kernel_rfl) (by rfl) (fun W' hSw => by go_simp) hHeld ?_
          try simp only [Act.put, List.setIfInBounds_toArray, List.set_cons_zero, List.set_cons_succ]
          refine takeH 22 224 (.bool true) calm_np rfl rfl (by kernel_rfl) (by kernel_rfl) (by kernel_rfl) (by rfl) (fun W' hSw => by go_simp) hHeld ?_
          try simp only [Act.put, List.setIfInBounds_toArray, List.set_cons_zero, List.set_cons_succ]
          refine takeH 23 6 (.bool true) calm_np rfl rfl (by kernel_rfl) (by kernel_rfl) (by kernel_rfl) (by rfl) (fun W' hSw => by go_simp) hHeld ?_
          try simp only [Act.put, List.setIfInBounds_toArray, List.set_cons_zero, List.set_cons_succ]
          refine wpAnyH_done (by kernel_rfl) ?_ _
          refine NoPanic.normal ?_
          go_wp2_with fail
          go_ret
          exact ⟨rfl, below_trans (HLC.out.below HWX.out).2.2 hHeld⟩


set_option maxRecDepth 100000 in
set_option maxHeartbeats 4000000 in
theorem lifted (os : Os) (started : os.Started) (H : Type) (enc : TypeId × Value → H) :
    ReturnsInHanded {} Try.checked os 3 .any (Rows.goodsKnowSpec.pre6 enc Try.prog Try.f3 Rows.goodsKnowRow.domain false) (Rows.goodsKnowSpec.post enc Try.prog Try.f3 false true false false) := by
  refine returnsInHanded_of_change (C := Try.checked) own started (by kernel_rfl) Try.func3
    (ChangeSpec.witness6 (enc := enc) (C := Try.checked) false ⟨#[], #[.agg #[.slice none 0 0, .slice none 0 0], .string ByteArray.empty, .agg #[.string ByteArray.empty, .string ByteArray.empty, .int .i64 0, .int .i64 0, .int .i64 0]], []⟩ 8 (by kernel_rfl) (by kernel_rfl) (by kernel_rfl) (by kernel_rfl)) ?_
  intro W base args ds gs before hval0 hW hcnd _
  have hval : ∀ (j : Nat) t v, Try.f3.params[j]? = some t → args[j]? = some v → Value.okWide Try.prog W .any base t v := hval0
  have hW' := hW
  obtain ⟨p, q, hA0, hV, rfl, hfz, hnd⟩ := hW
  have hA : DataW.TrodAll enc Try.prog W 0 (fun _ => true) true Try.f3.params.toList args.toList ds p := hA0
  rw [Try.params3] at hA hval
  obtain ⟨v0, vs0, d0, ds0, p0, q0, hargs, rfl, rfl, h0, r0⟩ := trodAll_cons hA
  obtain ⟨v1, vs1, d1, ds1, p1, q1, rfl, rfl, rfl, h1, r1⟩ := trodAll_cons r0
  obtain ⟨v2, vs2, d2, ds2, p2, q2, rfl, rfl, rfl, h2, r2⟩ := trodAll_cons r1
  obtain ⟨rfl, rfl, rfl⟩ := trodAll_nil r2
  obtain rfl : args = #[v0, v1, v2] := by cases args; simp_all
  obtain ⟨rfl, rfl⟩ := trodVars_none hV
  have k0 := h0
  have lt0 : ∀ x ∈ p0, x.block < W.heap.size := by obtain ⟨m, hm⟩ := k0; exact DataW.trod_lt m _ _ _ hm
  obtain ⟨fuel0, hf0⟩ := h0
  obtain ⟨va0, vb0, rfl, wa0, wb0⟩ := open_goods (hval 0 25 v0 rfl rfl) hf0
  obtain ⟨a1, rfl, rfl, rfl, w1⟩ := open_string Try.underlying9 (hval 1 9 v1 rfl rfl) h1
  have k2 := h2
  have lt2 : ∀ x ∈ p2, x.block < W.heap.size := by obtain ⟨m, hm⟩ := k2; exact DataW.trod_lt m _ _ _ hm
  obtain ⟨fuel2, hf2⟩ := h2
  obtain ⟨x2, rfl, w2⟩ := open_sub (hval 2 27 v2 rfl rfl) hf2
  clear hA0 hval0
  refine (walk0 va0 vb0 a1 (by simpa [maxLen] using w1) x2 w2 W wa0 wb0).mono fun e W' ⟨he, bel⟩ => ?_
  subst he
  exact ⟨_, rfl, _, _, _, [], _, [], hW', trodAll_mk1 (shut_bool Try.underlying4 _), (trodAll_cons_mk (Below.trod laidOut (by kernel_rfl) (of_decide_eq_true (by kernel_rfl)) k0 bel lt0) (trodAll_cons_mk (shut_string Try.underlying9 w1) (trodAll_cons_mk (Below.trod laidOut (by kernel_rfl) (of_decide_eq_true (by kernel_rfl)) k2 bel lt2) trodAll_mk0))), rfl, bel.frame _, fun h => by cases h⟩

theorem over : Rows.goodsKnowRow.holds Try.pinned (OpenSpec.ofChange Rows.goodsKnowSpec) :=
  OpenClaim.holds_of_wide 3 Try.f3 rfl rfl rfl rfl rfl rfl rfl ⟨rfl, rfl, rfl, rfl, rfl⟩ rfl rfl rfl rfl rfl (by kernel_rfl) Try.func3 (by kernel_rfl)
    (of_decide_eq_true (by kernel_rfl)) (by unfold Func.isWrapper; first | (rw [if_pos (by decide +kernel)]; kernel_rfl) | (rw [if_neg (by decide +kernel)]; exact ⟨rfl, rfl⟩))
    (fun os started H enc _ => lifted os started H enc)

theorem proved : Rows.GoodsKnowSaid := over
#print axioms proved

end Go.Proofs.Ythhadeohabkleaa.goodsKnow
