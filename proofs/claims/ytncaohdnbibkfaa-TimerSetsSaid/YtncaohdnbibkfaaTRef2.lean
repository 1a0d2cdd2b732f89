/-
  Contract of the reference's Set: with one more, in its place.
-/
import Derived.Test.YtncaohdnbibkfaaTRef1
namespace Go.Proofs.Ytncaohdnbibkfaa.Timer
open Go.ChangeShapes Go.WideShapes Go.ChangeAt Go.RowKit Go.Shelf Go.Lib
open Go.Proofs.Ytncaohdnbibkfaa.Queue

theorem Box.kept {b : Nat} {vs : List Value} {w w' : World} {r : Option Nat} (h : Box b vs w) (hg : w.grownBy w' r) (hne : some b ≠ r) : Box b vs w' := by
  have hb := hg.block b h.1 hne
  refine ⟨Nat.lt_of_lt_of_le h.1 hg.size, fun j v hj => ⟨?_, ?_⟩⟩
  · rw [World.cell?_of_block (a := ⟨b, j, none⟩) hb]; exact (h.2 j v hj).1
  · rw [World.frozen?_of_block (a := ⟨b, j, none⟩) hb]; exact (h.2 j v hj).2
theorem own_ne {B : Nat} {v : Value} {l : List Wt} {w : World} (h : OwnM B v l w) : some w.heap.size ≠ v.ownBlock := fun e => by
  have := (World.ownsRow.lt h _ e.symm).2
  omega
/-- One is appended to a row of the call's own, beside another one, and beside whatever lies elsewhere. -/
theorem wpList_append_M_two {w : World} {ops : Array Oper} {rest : List Oper} {o : Oper} {a : Act} {Q : Exit → Act → World → Prop} (hgd : o.guard = none) (s y : Operand)
    (ho : o.op = .call { callee := .builtin .append, args := #[s, y], argTypes := #[22, 22] })
    (base : Nat) (v : Value) (l0 : List Wt) (hs : a.eval s = v) (hown : OwnM base v l0 w) (ad : Addr) (x : Wt) (hy : a.eval y = .slice (some ad) 1 1) (hrow : QRow w (.slice (some ad) 1 1) [x]) (h0 : l0.length ≤ 1001) (hbase : base ≤ w.heap.size)
    {B2 : Nat} {u : Value} {m : List Wt} (hu : OwnM B2 u m w) (hne : Apart u v)
    (h : ∀ v' w', OwnM base v' (l0 ++ [x]) w' → Below base w w' → OwnM B2 u m w' → Apart u v' → w.grownBy w' v.ownBlock → wpList Try.prog ops Q rest (a.put o.dst v') w') : wpList Try.prog ops Q (o :: rest) a w := by
  obtain ⟨i0, hi, hz0, hz1, hz2⟩ := info_parts infoM
  refine wpList_append_own_at w hgd s y 22 ho base 24 i0 (.agg #[.int .i64 0, .int .i64 0, .int .i64 0]) 3 24 Try.underlying22 hi hz0 hz1 hz2 rfl (by decide) v l0.length (mcells l0) hs hown ad 1 1 (mcells [x]) hy rfl (news_M (show QRow w (.slice (some ad) [x].length 1) [x] from hrow)) (mcells_one [x]) (by unfold maxLen; omega) (by omega) hbase ?_
  intro v' w1 hown' hgrow _ hat
  have hap : Apart u v' := by
    rcases hne with hne | hne
    · exact .inl hne
    · rcases hat with e | e
      · exact .inr (by rw [e]; exact hne)
      · cases hc : u.ownBlock with
        | none => exact .inl hc
        | some k =>
          refine .inr fun e2 => ?_
          rw [hc, e] at e2
          cases e2
          have := (World.ownsRow.lt hu _ hc).2
          omega
  refine h v' w1 ?_ ((show Below base w w from Below.refl _ _).grown hgrow hbase (fun j hj => (hown.lt j hj).1)) (World.ownsRow.kept hu hgrow hne) hap hgrow
  unfold OwnM
  rw [mcells_append, List.length_append]
  exact hown'

theorem insT_none {x : Wt} : ∀ {l : List Wt}, l.any (fun y => ltB x y) = false → insT x l = l ++ [x]
  | [], _ => rfl
  | y :: r, h => by
    rw [List.any_cons, Bool.or_eq_false_iff] at h
    rw [insT, if_neg (by rw [h.1]; simp), insT_none h.2]
    rfl
theorem insT_new {x y : Wt} (hy : ltB x y = true) : ∀ {l : List Wt}, l.any (fun y => ltB x y) = false → insT x (l ++ [y]) = l ++ [x] ++ [y]
  | [], _ => by rw [List.nil_append, insT, if_pos hy]; rfl
  | z :: r, h => by
    rw [List.any_cons, Bool.or_eq_false_iff] at h
    rw [List.cons_append, insT, if_neg (by rw [h.1]; simp), insT_new hy h.2]
    rfl
theorem insT_old {x y : Wt} : ∀ {l : List Wt}, l.any (fun y => ltB x y) = true → insT x (l ++ [y]) = insT x l ++ [y]
  | [], h => by cases h
  | z :: r, h => by
    by_cases hz : ltB x z = true
    · rw [List.cons_append, insT, if_pos hz, insT, if_pos hz]
      rfl
    · rw [List.any_cons, Bool.or_eq_true] at h
      rw [List.cons_append, insT, if_neg hz, insT, if_neg hz, insT_old (h.resolve_left hz)]
      rfl
/-- Is one of the first so many above it? -/
def hasB (x : Wt) (c : List Wt) (k : Nat) : Bool := (c.take k).any (fun y => ltB x y)
/-- What is out behind so many. -/
def accT (x : Wt) (c : List Wt) (k : Nat) : List Wt := if hasB x c k = true then insT x (c.take k) else c.take k
theorem accT_len (x : Wt) (c : List Wt) (k : Nat) : (accT x c k).length ≤ c.length + 1 := by
  have h1 : (c.take k).length ≤ c.length := by rw [List.length_take]; omega
  unfold accT
  split
  · rw [insT_len]; omega
  · omega
theorem hasB_succ {x : Wt} {c : List Wt} {k : Nat} (h : k < c.length) : hasB x c (k + 1) = (hasB x c k || ltB x c[k]) := any_take h
theorem acc_old {x : Wt} {c : List Wt} {k : Nat} (h : k < c.length) (hb : hasB x c k = true) : hasB x c (k + 1) = true ∧ accT x c (k + 1) = accT x c k ++ [c[k]] := by
  have e : hasB x c (k + 1) = true := by rw [hasB_succ h, hb]; rfl
  refine ⟨e, ?_⟩
  unfold accT
  rw [if_pos e, if_pos hb, List.take_succ_eq_append_getElem h]
  exact insT_old hb
theorem acc_new {x : Wt} {c : List Wt} {k : Nat} (h : k < c.length) (hb : hasB x c k = false) (hl : ltB x c[k] = true) : hasB x c (k + 1) = true ∧ accT x c (k + 1) = accT x c k ++ [x] ++ [c[k]] := by
  have e : hasB x c (k + 1) = true := by rw [hasB_succ h, hb, hl]; rfl
  refine ⟨e, ?_⟩
  unfold accT
  rw [if_pos e, if_neg (by rw [hb]; simp), List.take_succ_eq_append_getElem h]
  exact insT_new hl hb
theorem acc_no {x : Wt} {c : List Wt} {k : Nat} (h : k < c.length) (hb : hasB x c k = false) (hl : ltB x c[k] = false) : hasB x c (k + 1) = false ∧ accT x c (k + 1) = accT x c k ++ [c[k]] := by
  have e : hasB x c (k + 1) = false := by rw [hasB_succ h, hb, hl]; rfl
  refine ⟨e, ?_⟩
  unfold accT
  rw [if_neg (by rw [e]; simp), if_neg (by rw [hb]; simp), List.take_succ_eq_append_getElem h]
theorem acc_end (x : Wt) (c : List Wt) : (hasB x c c.length = true → accT x c c.length = insT x c) ∧ (hasB x c c.length = false → accT x c c.length ++ [x] = insT x c) := by
  have et : c.take c.length = c := List.take_length
  refine ⟨fun h => ?_, fun h => ?_⟩
  · unfold accT; rw [if_pos h, et]
  · unfold accT
    rw [if_neg (by rw [h]; simp), et]
    unfold hasB at h
    rw [et] at h
    exact (insT_none h).symm

/-- A row is returned. -/
def RowE (l : List Wt) (w : World) (e : Ending) (w' : World) : Prop := ∃ v, e = .returned v ∧ QRow w' v l ∧ Below w.heap.size w w'
def SetR (x : Wt) (c : List Wt) (k : Nat) (o cv : Value) (B : Nat) (w W : World) : Prop := OwnM w.heap.size o (accT x c k) W ∧ OwnM B cv c W ∧ Apart cv o ∧ Below w.heap.size w W

set_option maxRecDepth 100000 in
set_option maxHeartbeats 4000000 in
theorem refSet_any {v : Value} {l : List Wt} {w : World} (h : QRow w v l) (hl : l.length ≤ 1000) (x : Wt) : Calls Try.prog 18 #[v, wv x] w (RowE (setL x l) w) := by
  have hb := al w (.cells #[.int .i64 x.c, .int .i64 x.s, .int .i64 x.o] 24)
  have hbx := Box.made w (tcs x) 24
  obtain ⟨W0, hW0⟩ : ∃ W, w.alloc (.cells #[.int .i64 x.c, .int .i64 x.s, .int .i64 x.o] 24) = W := ⟨_, rfl⟩
  have hs0 : W0.heap.size = w.heap.size + 1 := by rw [← hW0]; simp
  have HB0 : Hid (Below w.heap.size w W0) := Lib.hid (hW0 ▸ hb)
  have HX0 : Hid (Box w.heap.size (tcs x) W0) := Lib.hid (hW0 ▸ hbx)
  have hE := OwnM.empty W0 rfl
  have hb1 := al W0 (.cells #[] 24)
  have HC := Lib.hid (refClear_any ((h.below HB0.out).below hb1) hl x.s x.o)
  have HSL : Hid (setL x l = insT x (clearL x.s x.o l)) := Lib.hid rfl
  have HCL : Hid ((clearL x.s x.o l).length ≤ 1000) := Lib.hid (Nat.le_trans (clear_sub _ _ _).length_le hl)
  obtain ⟨d0, d1, d2⟩ := c3' (HX0.out.below hb1)
  have hsx := (HX0.out.below hb1).1
  have HE := Lib.hid hE
  have HB1 := Lib.hid hb1
  have HLS := Lib.hid (fun y W => refLess_any x y W)
  have HOA : Hid (∀ (cv : Value) (c : List Wt) (W : World), OwnM (W0.alloc (.cells #[] 24)).heap.size cv c W → Apart cv (.slice (some ⟨W0.heap.size, 0, none⟩) 0 0)) := Lib.hid (fun cv c W ho => by
    cases hu : cv.ownBlock with
    | none => exact .inl hu
    | some k =>
      refine .inr fun e => ?_
      have h1 := (World.ownsRow.lt ho k hu).1
      rw [hu] at e
      simp [Value.ownBlock] at e
      simp only [World.size_alloc] at h1
      omega)
  obtain ⟨a, cap, rfl⟩ := h.slice
  unfold wv at HLS ⊢
  clear h hb hbx hE hb1 hl hs0
  go_enter Try.func18, Try.ntmps18
  go_upto_region 1 with (fail)
  clear hW0
  go_wp2_with fail
  (with_reducible refine HC.out.mono ?_)
  rintro e w1 ⟨cv, rfl, hc, hz⟩
  have HOA1 := Lib.hid (HOA.out _ _ _ hc)
  have HST : Hid (SetR x (clearL x.s x.o l) 0 (.slice (some ⟨W0.heap.size, 0, none⟩) 0 0) cv (W0.alloc (.cells #[] 24)).heap.size W0 w1) := Lib.hid ⟨HE.out.below hz, hc, HOA1.out, below_trans HB1.out hz⟩
  generalize clearL x.s x.o l = c at *
  generalize (W0.alloc (.cells #[] 24)).heap.size = B at *
  obtain ⟨ca, cn, cc, rfl⟩ : ∃ a n c, cv = .slice a n c := (by obtain ⟨a', c', e⟩ := hc.row.slice; exact ⟨a', _, c', e⟩)
  obtain rfl : cn = c.length := (QRow.cap hc.row).1
  clear hc hz HC HE HOA HOA1 d0 d1 d2 hsx
  go_wp2_with fail
  go_loopw [5, 6, 8, 17] (fun o d _ i wr => ∃ k : Nat, k ≤ c.length ∧ i = .int .i64 k ∧ d = .bool (hasB x c k) ∧ SetR x c k o (.slice ca c.length cc) B W0 wr) (fun _ _ _ i _ => c.length - (Go.RowKit.intOf i).toNat)
  case atStart => exact ⟨0, Nat.zero_le _, rfl, rfl, HST.out⟩
  case round =>
    obtain ⟨k, hk, rfl, rfl, hr⟩ := hrel
    obtain ⟨ua, un, uc, rfl⟩ : ∃ a n c, u5 = .slice a n c := (by obtain ⟨a', c', e⟩ := hr.1.row.slice; exact ⟨a', _, c', e⟩)
    have HR := Lib.hid hr
    clear hr
    by_cases hlt : k < c.length
    · obtain ⟨b, off, rfl, hlc, hcap, hb, k0, k1, k2⟩ := HR.out.2.1.row.at hlt
      have HAO := Lib.hid (acc_old (x := x) hlt)
      have HAN := Lib.hid (acc_new (x := x) hlt)
      have HAX := Lib.hid (acc_no (x := x) hlt)
      have HAL : Hid ((accT x c k).length ≤ 1001) := Lib.hid (by have := accT_len x c k; have := HCL.out; omega)
      generalize c[k] = y at *
      have hbx := Box.made wr (tcs y) 24
      have hba := al wr (.cells #[.int .i64 y.c, .int .i64 y.s, .int .i64 y.o] 24)
      have hnw := own_ne HR.out.1
      obtain ⟨W1, hW1⟩ : ∃ W, wr.alloc (.cells #[.int .i64 y.c, .int .i64 y.s, .int .i64 y.o] 24) = W := ⟨_, rfl⟩
      have HD1 : Hid (Below wr.heap.size wr W1) := Lib.hid (hW1 ▸ hba)
      have HY1 : Hid (Box wr.heap.size (tcs y) W1) := Lib.hid (hW1 ▸ hbx)
      have HO1 := Lib.hid (HR.out.1.below HD1.out)
      have HC1 := Lib.hid (HR.out.2.1.below HD1.out)
      have HZ1 := Lib.hid (below_trans HR.out.2.2.2 HD1.out)
      have HX1 := Lib.hid (HX0.out.below HZ1.out)
      have HAP := Lib.hid HR.out.2.2.1
      have HNE := Lib.hid hnw
      clear hbx hba hnw
      cases hm : hasB x c k with
      | true =>
        obtain ⟨hb1, hb2⟩ := HAO.out hm
        have HBB := Lib.hid hb1
        have HACC := Lib.hid hb2
        have hb3 := al W1 (.cells #[.int .i64 y.c, .int .i64 y.s, .int .i64 y.o] 24)
        have HONE := Lib.hid (row_M W1 y)
        have HZ2 := Lib.hid (below_trans HZ1.out hb3)
        have HO2 := Lib.hid (HO1.out.below hb3)
        have HC2 := Lib.hid (HC1.out.below hb3)
        have hsz2 := HZ2.out.size
        obtain ⟨d0, d1, d2⟩ := c3' HY1.out
        have hsy := HY1.out.1
        clear hb1 hb2 hb3 hm HAO HAN HAX
        go_upto_region 6 with (fail)
        clear hW1
        go_wp2_with (at_builtin; refine wpList_append_M_two rfl _ _ rfl W0.heap.size _ (accT x c k) rfl HO2.out _ y rfl HONE.out HAL.out hsz2 HC2.out HAP.out ?_)
        intro v' w3 hown hbel hu hap _
        obtain ⟨za, zn, zc, rfl⟩ : ∃ a n c, v' = .slice a n c := (by obtain ⟨a', c', e⟩ := hown.row.slice; exact ⟨a', _, c', e⟩)
        have HR3 : Hid (SetR x c (k + 1) (.slice za zn zc) (.slice (some ⟨b, off, none⟩) c.length cc) B W0 w3) := Lib.hid ⟨by rw [HACC.out]; exact hown, hu, hap, HZ2.out.trans hbel⟩
        clear hown hbel hu hap d0 d1 d2 hsy
        go_wp2_with fail
        go_roundw
        case rel => exact ⟨k + 1, by omega, by go_num, by rw [HBB.out], HR3.out⟩
        case measure => simp [intOf]; omega
      | false =>
        have HLS1 := Lib.hid (HLS.out y)
        obtain ⟨d0, d1, d2⟩ := c3' HY1.out
        have hsy := HY1.out.1
        obtain ⟨x0, x1, x2⟩ := c3' HX1.out
        have hsx := HX1.out.1
        cases hl : ltB x y with
        | false =>
          rw [hl] at HLS1
          obtain ⟨hb1, hb2⟩ := HAX.out hm hl
          have HBB := Lib.hid hb1
          have HACC := Lib.hid hb2
          clear hb1 hb2 hm hl HAO HAN HAX
          go_upto_region 6 with (fail)
          clear hW1
          go_wp2_with fail
          (with_reducible refine (HLS1.out _).mono ?_)
          rintro e w2 ⟨rfl, hz⟩
          have HY2 := Lib.hid (HY1.out.below hz)
          have hb3 := al w2 (.cells #[.int .i64 y.c, .int .i64 y.s, .int .i64 y.o] 24)
          have HONE := Lib.hid (row_M w2 y)
          have HZ2 := Lib.hid (below_trans (below_trans HZ1.out hz) hb3)
          have HO2 := Lib.hid ((HO1.out.below hz).below hb3)
          have HC2 := Lib.hid ((HC1.out.below hz).below hb3)
          have hsz2 := HZ2.out.size
          clear hb3 hz d0 d1 d2 hsy x0 x1 x2 hsx
          obtain ⟨d0, d1, d2⟩ := c3' HY2.out
          have hsy := HY2.out.1
          go_wp2_with (at_builtin; refine wpList_append_M_two rfl _ _ rfl W0.heap.size _ (accT x c k) rfl HO2.out _ y rfl HONE.out HAL.out hsz2 HC2.out HAP.out ?_)
          intro v' w3 hown hbel hu hap _
          obtain ⟨za, zn, zc, rfl⟩ : ∃ a n c, v' = .slice a n c := (by obtain ⟨a', c', e⟩ := hown.row.slice; exact ⟨a', _, c', e⟩)
          have HR3 : Hid (SetR x c (k + 1) (.slice za zn zc) (.slice (some ⟨b, off, none⟩) c.length cc) B W0 w3) := Lib.hid ⟨by rw [HACC.out]; exact hown, hu, hap, HZ2.out.trans hbel⟩
          clear hown hbel hu hap d0 d1 d2 hsy
          go_wp2_with fail
          go_roundw
          case rel => exact ⟨k + 1, by omega, by go_num, by rw [HBB.out], HR3.out⟩
          case measure => simp [intOf]; omega
        | true =>
          rw [hl] at HLS1
          obtain ⟨hb1, hb2⟩ := HAN.out hm hl
          have HBB := Lib.hid hb1
          have HACC := Lib.hid hb2
          clear hb1 hb2 hm hl HAO HAN HAX
          go_upto_region 6 with (fail)
          clear hW1
          go_wp2_with fail
          (with_reducible refine (HLS1.out _).mono ?_)
          rintro e w2 ⟨rfl, hz⟩
          have hb3 := al w2 (.cells #[.int .i64 x.c, .int .i64 x.s, .int .i64 x.o] 24)
          have HY2 := Lib.hid ((HY1.out.below hz).below hb3)
          have HX2 := Lib.hid (HX1.out.below hz)
          have HONE := Lib.hid (row_M w2 x)
          have HZ2 := Lib.hid (below_trans (below_trans HZ1.out hz) hb3)
          have HO2 := Lib.hid ((HO1.out.below hz).below hb3)
          have HC2 := Lib.hid ((HC1.out.below hz).below hb3)
          have hsz2 := HZ2.out.size
          clear hb3 hz d0 d1 d2 hsy x0 x1 x2 hsx
          obtain ⟨x0, x1, x2⟩ := c3' HX2.out
          have hsx := HX2.out.1
          go_wp2_with (at_builtin; refine wpList_append_M_two rfl _ _ rfl W0.heap.size _ (accT x c k) rfl HO2.out _ x rfl HONE.out HAL.out hsz2 HC2.out HAP.out ?_)
          intro v' w3 hown hbel hu hap hgr
          obtain ⟨za, zn, zc, rfl⟩ : ∃ a n c, v' = .slice a n c := (by obtain ⟨a', c', e⟩ := hown.row.slice; exact ⟨a', _, c', e⟩)
          have HY3 := Lib.hid (Box.kept HY2.out hgr HNE.out)
          have hb4 := al w3 (.cells #[.int .i64 y.c, .int .i64 y.s, .int .i64 y.o] 24)
          have HONE3 := Lib.hid (row_M w3 y)
          have HZ3 := Lib.hid (below_trans (HZ2.out.trans hbel) hb4)
          have HO3 := Lib.hid (hown.below hb4)
          have HC3 := Lib.hid (hu.below hb4)
          have HAP3 := Lib.hid hap
          have hsz3 := HZ3.out.size
          have HAL3 : Hid ((accT x c k ++ [x]).length ≤ 1001) := Lib.hid (by
            have h1 : (accT x c k).length ≤ c.length := by
              have h2 := congrArg List.length HACC.out
              have h3 := accT_len x c (k + 1)
              simp only [List.length_append, List.length_cons, List.length_nil] at h2
              omega
            have := HCL.out
            simp only [List.length_append, List.length_cons, List.length_nil]
            omega)
          clear hb4 hown hbel hu hap hgr x0 x1 x2 hsx HO2 HC2 HZ2 hsz2
          obtain ⟨d0, d1, d2⟩ := c3' HY3.out
          have hsy := HY3.out.1
          go_wp2_with (at_builtin; refine wpList_append_M_two rfl _ _ rfl W0.heap.size _ (accT x c k ++ [x]) rfl HO3.out _ y rfl HONE3.out HAL3.out hsz3 HC3.out HAP3.out ?_)
          intro v' w4 hown hbel hu hap _
          obtain ⟨ya, yn, yc, rfl⟩ : ∃ a n c, v' = .slice a n c := (by obtain ⟨a', c', e⟩ := hown.row.slice; exact ⟨a', _, c', e⟩)
          have HR3 : Hid (SetR x c (k + 1) (.slice ya yn yc) (.slice (some ⟨b, off, none⟩) c.length cc) B W0 w4) := Lib.hid ⟨by rw [HACC.out, List.append_assoc]; exact hown, hu, hap, HZ3.out.trans hbel⟩
          clear hown hbel hu hap d0 d1 d2 hsy
          go_wp2_with fail
          go_roundw
          case rel => exact ⟨k + 1, by omega, by go_num, by rw [HBB.out], HR3.out⟩
          case measure => simp [intOf]; omega
    · obtain rfl : k = c.length := by omega
      obtain ⟨he1, he2⟩ := acc_end x c
      have HE1 := Lib.hid he1
      have HE2 := Lib.hid he2
      clear he1 he2
      have HX1 := Lib.hid (HX0.out.below HR.out.2.2.2)
      obtain ⟨x0, x1, x2⟩ := c3' HX1.out
      have hsx := HX1.out.1
      cases hm : hasB x c c.length with
      | true =>
        have HE := Lib.hid (HE1.out hm)
        clear hm HE1 HE2
        go_wp2_with fail
        go_ret
        exact ⟨_, rfl, by rw [HSL.out, ← HE.out]; exact HR.out.1.row, below_trans HB0.out HR.out.2.2.2⟩
      | false =>
        have HE := Lib.hid (HE2.out hm)
        have hb3 := al wr (.cells #[.int .i64 x.c, .int .i64 x.s, .int .i64 x.o] 24)
        have HONE := Lib.hid (row_M wr x)
        have HZ2 := Lib.hid (below_trans HR.out.2.2.2 hb3)
        have HO2 := Lib.hid (HR.out.1.below hb3)
        have HC2 := Lib.hid (HR.out.2.1.below hb3)
        have hsz2 := HZ2.out.size
        have HAL : Hid ((accT x c c.length).length ≤ 1001) := Lib.hid (by have := accT_len x c c.length; have := HCL.out; omega)
        clear hm HE1 HE2 hb3
        go_wp2_with (at_builtin; refine wpList_append_M_two rfl _ _ rfl W0.heap.size _ (accT x c c.length) rfl HO2.out _ x rfl HONE.out HAL.out hsz2 HC2.out HR.out.2.2.1 ?_)
        intro v' w3 hown hbel _ _ _
        obtain ⟨za, zn, zc, rfl⟩ : ∃ a n c, v' = .slice a n c := (by obtain ⟨a', c', e⟩ := hown.row.slice; exact ⟨a', _, c', e⟩)
        have HO3 := Lib.hid hown.row
        have HZ3 := Lib.hid (below_trans HB0.out (HZ2.out.trans hbel))
        clear hown hbel
        go_wp2_with fail
        go_ret
        exact ⟨_, rfl, by rw [HSL.out, ← HE.out]; exact HO3.out, HZ3.out⟩
end Go.Proofs.Ytncaohdnbibkfaa.Timer
