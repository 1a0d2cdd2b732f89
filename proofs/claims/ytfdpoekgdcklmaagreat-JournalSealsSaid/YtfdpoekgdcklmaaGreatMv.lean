/-
  Joined: JRef3, JRef7, JRef6, JRef5.
-/
import Derived.Test.YtfdpoekgdcklmaaGreatMu
import Derived.Test.YtfdpoekgdcklmaaGreatMd
import Derived.Test.YtfdpoekgdcklmaaGreatMj
import Derived.IntWalk
import Derived.Deep.RegionHeld3

/-
  Contract of the reference of journal: Like, of two that are alike.
-/
namespace Go.Proofs.YtfdpoekgdcklmaaGreat.Disk.Jn
open Go.ChangeShapes Go.WideShapes Go.ChangeAt Go.RowKit Go.Lib

theorem Box.made2 (w : World) (us vs : List Value) (T U : TypeId) : Box w.heap.size us ((w.alloc (.cells us.toArray T)).alloc (.cells vs.toArray U)) ∧ Box (w.heap.size + 1) vs ((w.alloc (.cells us.toArray T)).alloc (.cells vs.toArray U)) := by
  refine ⟨(Box.made w us T).below (al _ _), ?_⟩
  have := Box.made (w.alloc (.cells us.toArray T)) vs U
  rwa [show (w.alloc (.cells us.toArray T)).heap.size = w.heap.size + 1 by simp] at this
set_option maxHeartbeats 4000000 in
set_option maxRecDepth 100000 in
theorem refLike_yes {aS aW aG aR bS bW bG bR : Value} {J : JN} {w : World} (ha : JRow w aS aW aG aR J) (hb : JRow w bS bW bG bR J) (hl : J.ls.length ≤ 1000) (hw : J.ws.length ≤ 1000) (hg : J.g.length ≤ 1000000) (hr : J.l.length ≤ 1000000) :
    Calls Tryz.prog 10 #[.agg #[aS, aW, .int .i64 J.s, .int .i64 J.h, .int .i64 J.u, aG, aR], .agg #[bS, bW, .int .i64 J.s, .int .i64 J.h, .int .i64 J.u, bG, bR]] w (BoolB true w) := by
  obtain ⟨hx, hy⟩ := Box.made2 w [aS, aW, .int .i64 J.s, .int .i64 J.h, .int .i64 J.u, aG, aR] [bS, bW, .int .i64 J.s, .int .i64 J.h, .int .i64 J.u, bG, bR] 27 27
  have HX := Lib.hid hx
  have HY := Lib.hid hy
  have HA := Lib.hid (below_trans (al w (.cells #[aS, aW, .int .i64 J.s, .int .i64 J.h, .int .i64 J.u, aG, aR] 27)) (al (w.alloc (.cells #[aS, aW, .int .i64 J.s, .int .i64 J.h, .int .i64 J.u, aG, aR] 27)) (.cells #[bS, bW, .int .i64 J.s, .int .i64 J.h, .int .i64 J.u, bG, bR] 27)))
  have HSG := Lib.hid (fun W (h : Below w.heap.size w W) => (show Calls Tryz.prog 39 #[aG, bG] W (BoolB true W) from by
    have := SameB_any (ha.below h).rG (hb.below h).rG hg hg
    rwa [decide_eq_true rfl] at this))
  have HSR := Lib.hid (fun W (h : Below w.heap.size w W) => (show Calls Tryz.prog 39 #[aR, bR] W (BoolB true W) from by
    have := SameB_any (ha.below h).rR (hb.below h).rR hr hr
    rwa [decide_eq_true rfl] at this))
  have HSD := Lib.hid (fun W (h : Below w.heap.size w W) => Like_yes (ha.below h).rS (ha.below h).rW (hb.below h).rS (hb.below h).rW hl hw)
  obtain ⟨s, hs⟩ : ∃ s, J.s = s := ⟨_, rfl⟩
  obtain ⟨h, hh⟩ : ∃ s, J.h = s := ⟨_, rfl⟩
  obtain ⟨u, hu⟩ : ∃ s, J.u = s := ⟨_, rfl⟩
  rw [hs, hh, hu] at HX HY HA ⊢
  clear hx hy ha hb hs hh hu
  go_enter Tryz.func10, Tryz.ntmps10
  go_upto_region 1 with fail
  generalize (w.alloc (.cells #[aS, aW, .int .i64 s, .int .i64 h, .int .i64 u, aG, aR] 27)).alloc (.cells #[bS, bW, .int .i64 s, .int .i64 h, .int .i64 u, bG, bR] 27) = W0 at *
  obtain ⟨x0, x1, x2, x3, x4, x5, x6⟩ := HX.out.c7
  obtain ⟨y0, y1, y2, y3, y4, y5, y6⟩ := HY.out.c7
  go_wp2_with (first
    | (go_at_call 39; (with_reducible refine (HSG.out _ HA.out).mono ?_); rintro e w1 ⟨rfl, hz⟩; have HZ1 := Lib.hid hz; have HB1 := Lib.hid (below_trans HA.out hz); clear x0 x1 x2 x3 x4 x5 x6 y0 y1 y2 y3 y4 y5 y6; obtain ⟨x0, x1, x2, x3, x4, x5, x6⟩ := (HX.out.below hz).c7; obtain ⟨y0, y1, y2, y3, y4, y5, y6⟩ := (HY.out.below hz).c7; clear hz)
    | (go_at_call 39; (with_reducible refine (HSR.out _ HB1.out).mono ?_); rintro e w2 ⟨rfl, hz⟩; have HZ2 := Lib.hid (below_trans HZ1.out hz); have HB2 := Lib.hid (below_trans HB1.out hz); clear x0 x1 x2 x3 x4 x5 x6 y0 y1 y2 y3 y4 y5 y6; obtain ⟨x0, x1, x2, x3, x4, x5, x6⟩ := (HX.out.below HZ2.out).c7; obtain ⟨y0, y1, y2, y3, y4, y5, y6⟩ := (HY.out.below HZ2.out).c7; clear hz)
    | (go_at_call 27; (with_reducible refine (HSD.out _ HB2.out).mono ?_); rintro e w3 ⟨rfl, hz⟩; have HB3 := Lib.hid (below_trans HB2.out hz); clear hz))
  go_ret
  exact ⟨rfl, HB3.out⟩
end Go.Proofs.YtfdpoekgdcklmaaGreat.Disk.Jn

/-
  Contracts of the reference of journal: zeros, put.
-/
namespace Go.Proofs.YtfdpoekgdcklmaaGreat.Disk.Jn
open Go.ChangeShapes Go.WideShapes Go.ChangeAt Go.RowKit Go.Lib

/-- Writes, which may be none, are appended to a row of the call's own. -/
theorem wp_append_writes {w : World} {o : Oper} {a : Act} {K : Act → World → Prop} {Q : Exit → Act → World → Prop} (s x : Operand)
    (ho : o.op = .call { callee := .builtin .append, args := #[s, x], argTypes := #[23, 23] })
    (base : Nat) (v : Value) (l0 : List (Int × ByteArray)) (hs : a.eval s = v) (hown : OwnW base v l0 w) (u : Value) (l : List (Int × ByteArray)) (hx : a.eval x = u) (hrow : WRow w u l) (h0 : l0.length ≤ 100000) (hl : l.length ≤ 100000) (hbase : base ≤ w.heap.size)
    (h : ∀ v' w', OwnW base v' (l0 ++ l) w' → Below base w w' → K (a.put o.dst v') w') : o.wp Tryz.prog a w K Q := by
  obtain ⟨i0, hi, hz0, hz1, hz2⟩ := info_parts Tryz.infoW
  have H := hrow
  rcases hrow with ⟨rfl, rfl⟩ | ⟨g, cap, rfl, hc, hg, hcell⟩
  · have hrun := run_append_owned_none (P := Tryz.prog) (w := w) base 23 o.type 59 i0 2 Tryz.underlying23 hi v l0.length (wcells l0) hown
    unfold Oper.wp
    simp only [execOp, ho, resolve, invoke, builtin, Sem.run_bind, Sem.run_pure, Result.andThen_ok, List.map_toArray, List.map_cons, List.map_nil, hs, hx, hrun]
    exact h v w (by rw [List.append_nil]; exact hown) ⟨rfl, rfl, rfl, Nat.le_refl _, fun _ _ => rfl⟩
  · refine wp_append_own w s x 23 ho base 59 i0 (.agg #[.int .i64 0, .string ⟨#[]⟩]) 2 24 Tryz.underlying23 hi hz0 hz1 hz2 rfl (by decide) v l0.length (wcells l0) hs hown ⟨g, 0, none⟩ l.length cap (wcells l) hx (by rw [wcells_len]) H.news (wcells_one l) (by unfold maxLen; omega) (by omega) hbase ?_
    intro v' w1 hown' hgrow _
    refine h v' w1 ?_ ?_
    · unfold OwnW
      rw [wcells_append, List.length_append]
      exact hown'
    · exact (show Below base w w from ⟨rfl, rfl, rfl, Nat.le_refl _, fun _ _ => rfl⟩).grown hgrow hbase (fun j hj => (hown.lt j hj).1)
theorem wpList_append_writes {w : World} {ops : Array Oper} {rest : List Oper} {o : Oper} {a : Act} {Q : Exit → Act → World → Prop} (hgd : o.guard = none) (s x : Operand)
    (ho : o.op = .call { callee := .builtin .append, args := #[s, x], argTypes := #[23, 23] })
    (base : Nat) (v : Value) (l0 : List (Int × ByteArray)) (hs : a.eval s = v) (hown : OwnW base v l0 w) (u : Value) (l : List (Int × ByteArray)) (hx : a.eval x = u) (hrow : WRow w u l) (h0 : l0.length ≤ 100000) (hl : l.length ≤ 100000) (hbase : base ≤ w.heap.size)
    (h : ∀ v' w', OwnW base v' (l0 ++ l) w' → Below base w w' → wpList Tryz.prog ops Q rest (a.put o.dst v') w') : wpList Tryz.prog ops Q (o :: rest) a w :=
  wpList_plain hgd fun _ hK => wp_append_writes s x ho base v l0 hs hown u l hx hrow h0 hl hbase fun v' w' h1 h2 => hK _ _ (h v' w' h1 h2)
theorem WRow.one {w : World} {b : Nat} {i : Int} {d : ByteArray} (h : Box2 b (.int .i64 i) (.string d) w) : WRow w (.slice (some ⟨b, 0, none⟩) 1 1) [(i, d)] :=
  .inr ⟨b, 1, rfl, by simp, h.1, fun j hj => by
    obtain rfl : j = 0 := by simpa using hj
    exact ⟨h.2.1, h.2.2.1⟩⟩

theorem zeros_is : (⟨(List.replicate 64 (0 : UInt8)).toArray⟩ : ByteArray) = zeros := by decide +kernel
theorem zcells_is : (madeCells (Value.int .u8 0).cells (64 * 1)).toList = bcells (List.replicate 64 (0 : UInt8)) := by kernel_rfl
set_option maxHeartbeats 1000000 in
set_option maxRecDepth 100000 in
theorem refZeros_any (w : World) : Calls Tryz.prog 59 #[.int .i64 64] w (TextB zeros w) := by
  obtain ⟨i1, hi1, hy0, hy1, hy2⟩ := info_parts Tryz.info5
  go_enter Tryz.func59, Tryz.ntmps59
  go_wp2_with (at_make; refine wpList_make_full _ rfl _ _ 41 rfl w.heap.size 5 i1 (.int .u8 0) 1 Tryz.underlying41 hi1 hy0 hy1 _ _ 64 64 64 rfl rfl rfl rfl (by omega) (by unfold maxLen; omega) (Nat.le_refl _) ?_; intro W1 hown hgr)
  have hb := (Below.refl w.heap.size w).grown hgr (Nat.le_refl _) (fun k h => by cases h)
  rw [zcells_is] at hown
  have hs := own_string (dst := 9) Tryz.underlying41 Tryz.underlying5 Tryz.underlying9 (l := List.replicate 64 (0 : UInt8)) hown (by simp)
  rw [zeros_is] at hs
  have HB := Lib.hid hb
  clear hown hgr hb
  rw [hs]
  go_wp2_with fail
  go_ret
  exact ⟨rfl, HB.out⟩

/-- Blocks below a place stay. -/
theorem Box.under {b B : Nat} {vs : List Value} {w w' : World} (h : Box b vs w) (hb : Below B w w') (hB : b < B) : Box b vs w' :=
  ⟨Nat.lt_of_lt_of_le h.1 hb.size, fun j v hj => ⟨(hb.cell (p := ⟨b, j, none⟩) hB).trans (h.2 j v hj).1, (hb.frozen (p := ⟨b, j, none⟩) hB).trans (h.2 j v hj).2⟩⟩
/-- A disk with a write more: its sectors lie as they did. -/
def PutD (vS : Value) (ws : List (Int × ByteArray)) (w : World) (e : Ending) (w' : World) : Prop := ∃ vW, e = .returned (.agg #[vS, vW]) ∧ WRow w' vW ws ∧ From w.heap.size vW ∧ Below w.heap.size w w'
theorem put_ends {w W : World} {v0 v1 r0 r1 vS vW : Value} {ws : List (Int × ByteArray)} (_ : Box w.heap.size [v0, v1] W) (h1 : Box (w.heap.size + 1) [r0, r1] W) (hb : Below w.heap.size w W) (hr : WRow W vW ws) (hf : From (w.heap.size + 1 + 1) vW) :
    Box (w.heap.size + 1) [vS, vW] (((W.setCell ⟨w.heap.size, 1, none⟩ vW).setCell ⟨w.heap.size + 1, 0, none⟩ vS).setCell ⟨w.heap.size + 1, 1, none⟩ vW) ∧
    PutD vS ws w (.returned (.agg #[vS, vW])) (((W.setCell ⟨w.heap.size, 1, none⟩ vW).setCell ⟨w.heap.size + 1, 0, none⟩ vS).setCell ⟨w.heap.size + 1, 1, none⟩ vW) :=
  ⟨(h1.other (by omega) _).st2 _ _, _, rfl, ((hr.stored (hf.mono (by omega))).stored hf).stored hf, hf.mono (by omega), below_st2 (below_st hb (Nat.le_refl _) _ _) (by omega) _ _⟩
set_option maxHeartbeats 1000000 in
set_option maxRecDepth 100000 in
theorem refPut_any {a : Option Addr} {n cap : Nat} {vW : Value} {ws : List (Int × ByteArray)} {w : World} (hW : WRow w vW ws) (hw : ws.length ≤ 1000) (i : Int) (d : ByteArray) : Calls Tryz.prog 58 #[.agg #[.slice a n cap, vW], .int .i64 i, .string d] w (PutD (.slice a n cap) (ws ++ [(i, d)]) w) := by
  obtain ⟨aW, capW, rfl⟩ := hW.slice
  obtain ⟨hx, hy⟩ := Box.made2 w [.slice a n cap, .slice aW ws.length capW] [.slice none 0 0, .slice none 0 0] 25 25
  have HA := Lib.hid (below_trans (al w (.cells #[.slice a n cap, .slice aW ws.length capW] 25)) (al (w.alloc (.cells #[.slice a n cap, .slice aW ws.length capW] 25)) (.cells #[.slice none 0 0, .slice none 0 0] 25)))
  have HX := Lib.hid hx
  have HY := Lib.hid hy
  have HZ : Hid (((w.alloc (.cells #[.slice a n cap, .slice aW ws.length capW] 25)).alloc (.cells #[.slice none 0 0, .slice none 0 0] 25)).heap.size = w.heap.size + 1 + 1) := Lib.hid (by simp)
  have HW := Lib.hid hW
  clear hW hx hy
  go_enter Tryz.func58, Tryz.ntmps58
  go_upto_region 2 with fail
  generalize (w.alloc (.cells #[.slice a n cap, .slice aW ws.length capW] 25)).alloc (.cells #[.slice none 0 0, .slice none 0 0] 25) = W0 at *
  have HE : Hid (OwnW (w.heap.size + 1 + 1) (.slice (some ⟨w.heap.size + 1 + 1, 0, none⟩) 0 0) [] (W0.alloc (.cells #[] 59))) := Lib.hid (by
    have := World.ownsRow_made (e := 59) (size := 2) W0 #[] 0 (Nat.le_refl W0.heap.size) (Nat.zero_le _) rfl
    rwa [HZ.out] at this)
  have HB1 := Lib.hid (al W0 (.cells #[] 59))
  have HX1 := Lib.hid (HX.out.below HB1.out)
  have HWN := Lib.hid ((HW.out.below HA.out).below HB1.out)
  obtain ⟨c0, c1⟩ := HX1.out.c2
  have HY1 := Lib.hid (HY.out.below HB1.out)
  have HWB := Lib.hid (below_trans HA.out HB1.out)
  go_wp2_with (first
    | (at_builtin; refine wpList_append_writes rfl _ _ rfl (w.heap.size + 1 + 1) _ [] rfl HE.out _ ws rfl HWN.out (by simp) (by omega) (by simp [HZ.out]) ?_; intro v1 w1 ho1 hb1; rw [List.nil_append] at ho1; obtain ⟨a1, p1, rfl⟩ := ho1.row.slice; have HS1 := Lib.hid (show w.heap.size + 1 + 1 ≤ w1.heap.size from by have := hb1.size; rw [World.size_alloc, HZ.out] at this; omega); have HO1 := Lib.hid (World.ownsRow.alloc ho1 (.cells #[.int .i64 i, .string d] 59)); have HN1 := Lib.hid (WRow.one (Box2.made w1 (.int .i64 i) (.string d) 59)); have HU1 := Lib.hid hb1; clear ho1 hb1)
    | (at_builtin; refine wpList_append_writes rfl _ _ rfl (w.heap.size + 1 + 1) _ ws rfl HO1.out _ [(i, d)] rfl HN1.out (by omega) (by simp) (by have := HS1.out; simp; omega) ?_; intro v2 w2 ho2 hb2; have HX2 := Lib.hid (((HX1.out.under HU1.out (by omega)).below (al w1 (.cells #[.int .i64 i, .string d] 59))).under hb2 (by omega)); have HY2 := Lib.hid (((HY1.out.under HU1.out (by omega)).below (al w1 (.cells #[.int .i64 i, .string d] 59))).under hb2 (by omega)); have HR2 := Lib.hid (And.intro ho2.row (from_ownW ho2)); have HB2 := Lib.hid (HWB.out.trans ((HU1.out.mono (by omega)).trans (((al w1 (.cells #[.int .i64 i, .string d] 59)).mono (by have := HS1.out; omega)).trans (hb2.mono (by omega))))); clear ho2 hb2 c0 c1; obtain ⟨a2, p2, rfl⟩ := HR2.out.1.slice; obtain ⟨c0, c1⟩ := HX2.out.c2; obtain ⟨f0, f1⟩ := HX2.out.f2; obtain ⟨r0, r1⟩ := HY2.out.c2; obtain ⟨t0, t1⟩ := HY2.out.f2))
  have HEND := Lib.hid (put_ends (vS := .slice a n cap) HX2.out HY2.out HB2.out HR2.out.1 HR2.out.2)
  rw [show (ws ++ [(i, d)]).length = ws.length + 1 by simp] at HEND
  obtain ⟨q0, q1⟩ := HEND.out.1.c2
  exact bodyPost_ret (v := .agg #[.slice a n cap, .slice a2 (ws.length + 1) p2]) (by simp [results, Tryz.results58, go_sem, q0, q1]) rfl HEND.out.2
end Go.Proofs.YtfdpoekgdcklmaaGreat.Disk.Jn

/-
  Plain mathematics of laying bytes sector by sector, as the reference does; no program in it.
-/
namespace Go.Proofs.YtfdpoekgdcklmaaGreat.Disk.Jn
open Go.ChangeShapes Go.WideShapes Go.ChangeAt Go.RowKit Go.Lib
open Go.Proofs.YtfdpoekgdcklmaaGreat.Frame (mk_list mk_size size_list)

/-- How many sectors are laid once so many were looked at. -/
def laid (fr len i : Nat) : Nat := min (layK fr len) (i - fr / 64)
theorem laid_all {n half fr len : Nat} (h : Fits n half fr len) : laid fr len (hsN n) = layK fr len := by
  have := h.room
  unfold laid
  by_cases h0 : layK fr len = 0
  · omega
  · have := h.in (k := layK fr len - 1) (by omega)
    omega
theorem touched {fr len i : Nat} : (∃ m, m < 64 ∧ fr ≤ 64 * i + m ∧ 64 * i + m < fr + len) ↔ fr / 64 ≤ i ∧ i < fr / 64 + layK fr len := by
  unfold layK
  constructor
  · rintro ⟨m, h1, h2, h3⟩
    rw [if_neg (by omega)]
    omega
  · rintro ⟨h1, h2⟩
    by_cases h0 : len = 0
    · rw [if_pos h0] at h2; omega
    rw [if_neg h0] at h2
    by_cases h3 : 64 * i < fr
    · exact ⟨fr - 64 * i, by omega, by omega, by omega⟩
    · exact ⟨0, by omega, by omega, by omega⟩
theorem laid_some {fr len i : Nat} (h : fr / 64 ≤ i ∧ i < fr / 64 + layK fr len) : laid fr len (i + 1) = laid fr len i + 1 ∧ fr / 64 + laid fr len i = i := by
  unfold laid; omega
theorem laid_none {fr len i : Nat} (h : ¬ (fr / 64 ≤ i ∧ i < fr / 64 + layK fr len)) : laid fr len (i + 1) = laid fr len i := by
  unfold laid; omega
theorem laid_le (fr len i : Nat) : laid fr len i ≤ layK fr len := Nat.min_le_left _ _

/-- A sector with its first k bytes laid. -/
def secK (s : List UInt8) (fr : Nat) (bs : List UInt8) (i k : Nat) : List UInt8 := (List.range 64).map fun m => if m < k ∧ fr ≤ 64 * i + m ∧ 64 * i + m < fr + bs.length then bs.getD (64 * i + m - fr) 0 else s.getD m 0
theorem secK_len (s : List UInt8) (fr : Nat) (bs : List UInt8) (i k : Nat) : (secK s fr bs i k).length = 64 := by simp [secK]
theorem secK_at (s : List UInt8) (fr : Nat) (bs : List UInt8) (i k : Nat) {m : Nat} (hm : m < 64) : (secK s fr bs i k)[m]? = some (if m < k ∧ fr ≤ 64 * i + m ∧ 64 * i + m < fr + bs.length then bs.getD (64 * i + m - fr) 0 else s.getD m 0) := by
  unfold secK
  rw [List.getElem?_map, List.getElem?_range hm, Option.map_some]
theorem secK_zero {s : List UInt8} (hs : s.length = 64) (fr : Nat) (bs : List UInt8) (i : Nat) : secK s fr bs i 0 = s := by
  apply List.ext_getElem?
  intro m
  by_cases hm : m < 64
  · rw [secK_at _ _ _ _ _ hm, if_neg (by omega), List.getD, List.getElem?_eq_getElem (by omega)]; rfl
  · rw [List.getElem?_eq_none (by rw [secK_len]; omega), List.getElem?_eq_none (by omega)]
theorem secK_all (s : ByteArray) (fr : Nat) (bs : List UInt8) (i : Nat) : secD s fr bs i = ⟨(secK s.data.toList fr bs i 64).toArray⟩ := by
  unfold secD secK
  congr 2
  apply List.map_congr_left
  intro m hm
  have hm := List.mem_range.1 hm
  by_cases h : fr ≤ 64 * i + m ∧ 64 * i + m < fr + bs.length
  · rw [if_pos h, if_pos ⟨hm, h⟩]
  · rw [if_neg h, if_neg (fun c => h c.2)]
theorem secK_set {s : List UInt8} {fr : Nat} {bs : List UInt8} {i k : Nat} (hk : k < 64) (h : fr ≤ 64 * i + k ∧ 64 * i + k < fr + bs.length) : (secK s fr bs i k).set k (bs.getD (64 * i + k - fr) 0) = secK s fr bs i (k + 1) := by
  apply List.ext_getElem?
  intro m
  by_cases hm : m < 64
  · rw [List.getElem?_set, secK_len, secK_at _ _ _ _ _ hm, secK_at _ _ _ _ _ hm]
    by_cases e : k = m
    · subst e; rw [if_pos rfl, if_pos hk, if_pos ⟨by omega, h⟩]
    · rw [if_neg e]
      by_cases c : m < k ∧ fr ≤ 64 * i + m ∧ 64 * i + m < fr + bs.length
      · rw [if_pos c, if_pos ⟨by omega, c.2⟩]
      · rw [if_neg c, if_neg (fun d => c ⟨by omega, d.2⟩)]
  · rw [List.getElem?_eq_none (by rw [List.length_set, secK_len]; omega), List.getElem?_eq_none (by rw [secK_len]; omega)]
theorem secK_same {s : List UInt8} {fr : Nat} {bs : List UInt8} {i k : Nat} (h : ¬ (fr ≤ 64 * i + k ∧ 64 * i + k < fr + bs.length)) : secK s fr bs i (k + 1) = secK s fr bs i k := by
  unfold secK
  apply List.map_congr_left
  intro m _
  by_cases c : m < k ∧ fr ≤ 64 * i + m ∧ 64 * i + m < fr + bs.length
  · rw [if_pos c, if_pos ⟨by omega, c.2⟩]
  · rw [if_neg c, if_neg (fun d => c ⟨by by_cases e : m = k; (subst e; exact absurd d.2 h); omega, d.2⟩)]
end Go.Proofs.YtfdpoekgdcklmaaGreat.Disk.Jn

/-
  Contract of the reference of journal: Waits.
-/
namespace Go.Proofs.YtfdpoekgdcklmaaGreat.Disk.Jn
open Go.ChangeShapes Go.WideShapes Go.ChangeAt Go.RowKit Go.Lib
open Go.Proofs.YtfdpoekgdcklmaaGreat.Frame (frms)

theorem dr (W : World) : Below W.heap.size W W.drew := (Below.refl _ _).drew
set_option maxHeartbeats 8000000 in
set_option maxRecDepth 100000 in
theorem refWaits_any {vS vW vG vR vg : Value} {ls g : List ByteArray} {w : World} (hS : SRow w vS ls) (hg : SRow w vg g) (h8 : 8 ≤ ls.length) (hn : ls.length ≤ 1000) (hgl : g.length ≤ 100) (s h : Int) (u : Nat) (hu : u ≤ 100000) :
    Calls Tryz.prog 19 #[.agg #[vS, vW, .int .i64 s, .int .i64 h, .int .i64 u, vG, vR], vg] w (IntB (waitE ls.length u g) w) := by
  obtain ⟨aS, cap, rfl⟩ := hS.slice
  obtain ⟨ag, cg, rfl⟩ := hg.slice
  have HX := Lib.hid (Box.made w [.slice aS ls.length cap, vW, .int .i64 s, .int .i64 h, .int .i64 u, vG, vR] 27)
  have HA := Lib.hid (al w (.cells #[.slice aS ls.length cap, vW, .int .i64 s, .int .i64 h, .int .i64 u, vG, vR] 27))
  have HG := Lib.hid (fun W (hb : Below w.heap.size w W) => hg.below hb)
  have HR := Lib.hid (refRoom_any ls.length h8 hn)
  clear hS hg
  go_enter Tryz.func19, Tryz.ntmps19
  go_wp2
  generalize w.alloc (.cells #[.slice aS ls.length cap, vW, .int .i64 s, .int .i64 h, .int .i64 u, vG, vR] 27) = W1 at *
  go_loopw [10] (fun x wr => ∃ i : Nat, x = .int .i64 i ∧ i ≤ g.length ∧ (∀ d ∈ g.take i, d.size ≤ 1000) ∧ Below W1.heap.size W1 wr) (fun x _ => g.length - (Go.RowKit.intOf x).toNat)
  case atStart => exact ⟨0, rfl, Nat.zero_le _, by simp, Below.refl _ _⟩
  case round =>
    obtain ⟨i, rfl, hig, hall, hbe⟩ := hrel
    have HAL := Lib.hid hall
    have HB := Lib.hid hbe
    have HBW := Lib.hid (below_trans HA.out hbe)
    clear hall hbe
    by_cases hlt : i < g.length
    · have hat := (HG.out _ HBW.out).at hlt
      obtain ⟨bk, rfl, hlc, hbk, hc⟩ := hat
      have i0 : (0 : Int) ≤ (i : Int) := by omega
      have i1 : (i : Int) < (g.length : Int) := by omega
      have HT : Hid (g.take (i + 1) = g.take i ++ [g[i]]) := Lib.hid (List.take_succ_eq_append_getElem hlt)
      have HIN : Hid (g[i] ∈ g) := Lib.hid (List.getElem_mem hlt)
      generalize g[i] = d at *
      by_cases hd : d.size ≤ 1000
      · have hd' : ¬ (1000 : Int) < (d.size : Int) := by omega
        go_wp2
        go_roundw
        case rel => exact ⟨i + 1, by go_num, by omega, fun z hz => (by rw [HT.out, List.mem_append, List.mem_singleton] at hz; rcases hz with hz | rfl; exact HAL.out z hz; exact hd), HB.out⟩
        case measure => simp [Go.RowKit.intOf]; omega
      · have hd' : (1000 : Int) < (d.size : Int) := by omega
        have HE : Hid (waitE ls.length u g = 3) := Lib.hid (by
          unfold waitE
          rw [if_pos]
          rw [List.all_eq_false]
          exact ⟨d, HIN.out, by simpa using hd⟩)
        go_wp2
        go_ret
        exact ⟨by rw [HE.out]; rfl, HBW.out⟩
    · obtain rfl : i = g.length := by omega
      have HALL : Hid (∀ d ∈ g, d.size ≤ 1000) := Lib.hid (by have := HAL.out; rwa [List.take_length] at this)
      clear HAL
      have hfl : (frms g).length ≤ 1000000 := by
        have := frms_le (l := g) (fun d hd => by have := HALL.out d hd; omega)
        omega
      obtain ⟨F, hF⟩ : ∃ F : ByteArray, (⟨(frms g).toArray⟩ : ByteArray) = F := ⟨_, rfl⟩
      obtain ⟨f, hf⟩ : ∃ f, (frms g).length = f := ⟨_, rfl⟩
      have hFs : F.size = f := by rw [← hF, ← hf]; simp [ByteArray.size]
      have HW := Lib.hid (fun W (hb : Below w.heap.size w W) => (show Calls Tryz.prog 21 #[.slice ag g.length cg] W (fun e w' => e = .returned (.string F) ∧ Below W.heap.size W w') from by
        rw [← hF]
        exact Go.Proofs.YtfdpoekgdcklmaaGreat.Frame.Whole_any (HG.out W hb) (fun d hd => by have := HALL.out d hd; omega) hfl (by omega)))
      have HWE : Hid (waitE ls.length u g = if 16 < g.length then 7 else if 3000 < f then 7 else if roomN ls.length < u + f then 7 else 0) := Lib.hid (by
        unfold waitE
        rw [if_neg, hf]
        intro hc
        rw [List.all_eq_false] at hc
        obtain ⟨d, hd, hc⟩ := hc
        exact hc (by simpa using HALL.out d hd))
      have hr1 : roomN ls.length ≤ 100000 := by unfold roomN hsN; omega
      generalize hrm : roomN ls.length = rm at *
      rw [hf] at hfl
      clear hF hf HALL
      go_upto_region 8 with (go_at_call 21; (with_reducible refine (HW.out _ HBW.out).mono ?_); rintro e w5 ⟨rfl, hz⟩; have HB5 := Lib.hid (below_trans HB.out hz); have HBW5 := Lib.hid (below_trans HBW.out hz); clear hz)
      have HSF : Hid (∀ w', Below w5.heap.size w5 w' → w'.cell? ⟨w.heap.size, 0, none⟩ = some (.slice aS ls.length cap) ∧ w'.cell? ⟨w.heap.size, 4, none⟩ = some (.int .i64 u)) := Lib.hid (fun w' hb => by
        obtain ⟨c0, c1, c2, c3, c4, c5, c6⟩ := (HX.out.below (below_trans HB5.out hb)).c7
        exact ⟨c0, c4⟩)
      obtain ⟨c0, c4⟩ := HSF.out _ (Below.refl _ _)
      by_cases k1 : 16 < g.length
      · have k1' : decide ((16 : Int) < (g.length : Int)) = true := decide_eq_true (by omega)
        rw [if_pos k1] at HWE
        go_region
        go_wp2_with fail
        go_ret
        exact ⟨by rw [HWE.out]; rfl, below_trans HBW5.out (dr _)⟩
      have k1' : decide ((16 : Int) < (g.length : Int)) = false := decide_eq_false (by omega)
      rw [if_neg k1] at HWE
      by_cases k2 : 3000 < f
      · have k2' : decide ((3000 : Int) < (f : Int)) = true := decide_eq_true (by omega)
        rw [if_pos k2] at HWE
        go_region
        go_wp2_with fail
        go_ret
        exact ⟨by rw [HWE.out]; rfl, below_trans HBW5.out (dr _)⟩
      have k2' : decide ((3000 : Int) < (f : Int)) = false := decide_eq_false (by omega)
      rw [if_neg k2] at HWE
      have hw1 : IntKind.i64.wrap ((u : Int) + (f : Int)) = ((u + f : Nat) : Int) := (IntWalk.i64_in _ (by omega)).trans (by omega)
      go_region_held3 (fun w' => w'.cell? ⟨w.heap.size, 0, none⟩ = some (.slice aS ls.length cap) ∧ w'.cell? ⟨w.heap.size, 4, none⟩ = some (.int .i64 u)) (first | with_reducible exact HSF.out _ (dr w5) | with_reducible exact HSF.out _ HZ.out | fail)
        (first
          | (go_at_call 23; (with_reducible refine (HR.out _).mono ?_); rintro e w6 ⟨rfl, rfl⟩; have HZ := Lib.hid (dr w5))
          | fail)
      by_cases k3 : rm < u + f
      · have k3' : (rm : Int) < (u : Int) + (f : Int) := by omega
        rw [if_pos k3] at HWE
        go_wp2_with fail
        go_ret
        exact ⟨by rw [HWE.out]; rfl, below_trans HBW5.out (dr _)⟩
      · have k3' : ¬ (rm : Int) < (u : Int) + (f : Int) := by omega
        rw [if_neg k3] at HWE
        go_wp2_with fail
        go_ret
        exact ⟨by rw [HWE.out]; rfl, below_trans HBW5.out (dr _)⟩
end Go.Proofs.YtfdpoekgdcklmaaGreat.Disk.Jn
