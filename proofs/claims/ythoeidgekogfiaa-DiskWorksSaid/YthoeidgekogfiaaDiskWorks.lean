/-
  Proved: for any disk, sectors, place, data, number and tear the law DiskWorks returns true: which disks may be, a new one, and what Put, Get, Flush and Crash make of any, is as the reference says, or refused. No condition.
-/
import Derived.Test.YthoeidgekogfiaaRows
import Derived.Test.YthoeidgekogfiaaDiskArg
import Derived.Test.YthoeidgekogfiaaDiskTotal
import Derived.Test.YthoeidgekogfiaaDiskAlive
import Derived.Test.YthoeidgekogfiaaDiskLike
import Derived.Test.YthoeidgekogfiaaDiskRefC
import Derived.Laws.AppendOwnNone
namespace Go.Proofs.Ythoeidgekogfiaa.diskWorks
open Go.ChangeShapes Go.WideShapes Go.ChangeAt Go.RowKit Go.Lib Go.Proofs.Ythoeidgekogfiaa.Disk
open Go.ChangeMaps (open_string shut_string)
set_option linter.unusedVariables false

theorem own : ownKnob Try.prog.godebug = none := by kernel_rfl
theorem laidOut : laidOutB Try.prog = true := by kernel_rfl

/-- Behind the law's first statement: a disk of few sectors and writes, and a text. -/
def Cut1 (w : World) (s : Value) (wx : World) : Prop :=
  ∃ (aS aW : Option Addr) (cap capW : Nat) (ls : List ByteArray) (ws : List (Int × ByteArray)) (d : ByteArray), s = .string d ∧ d.size ≤ 66 ∧ smallP ls ws ∧ DBox w.heap.size (.slice aS ls.length cap) (.slice aW ws.length capW) ls ws wx ∧ Below w.heap.size w wx
theorem small_few {ls : List ByteArray} {ws : List (Int × ByteArray)} (h1 : ls.length ≤ 20) (h2 : ws.length ≤ 66) (h3 : ∀ t ∈ ls, t.size ≤ 66) (h4 : ∀ y ∈ ws, y.2.size ≤ 66) : smallP ls ws :=
  ⟨by omega, by omega, fun j h => by have := h3 _ (List.getElem_mem h); omega, fun j h => by have := h4 _ (List.getElem_mem h); omega⟩
/-- few's answer, stored where the disk came in. -/
theorem few_stored {w x : World} {vS vW uS uW : Value} {ls : List ByteArray} {ws : List (Int × ByteArray)} (hx : Below (w.alloc (.cells #[vS, vW] 25)).drew.heap.size (w.alloc (.cells #[vS, vW] 25)).drew x)
    (hS : SRow x uS ls ∧ From (w.alloc (.cells #[vS, vW] 25)).drew.heap.size uS) (hW : WRow x uW ws ∧ From (w.alloc (.cells #[vS, vW] 25)).drew.heap.size uW) :
    Box2 w.heap.size vS vW x ∧ DBox w.heap.size uS uW ls ws ((x.setCell ⟨w.heap.size, 0, none⟩ uS).setCell ⟨w.heap.size, 1, none⟩ uW) ∧ Below w.heap.size w ((x.setCell ⟨w.heap.size, 0, none⟩ uS).setCell ⟨w.heap.size, 1, none⟩ uW) := by
  have h1 : Below (w.alloc (.cells #[vS, vW] 25)).heap.size (w.alloc (.cells #[vS, vW] 25)) x := below_trans ((Below.refl _ _).drew) hx
  have e : (w.alloc (.cells #[vS, vW] 25)).drew.heap.size = w.heap.size + 1 := by show (w.alloc _).heap.size = _; simp
  rw [e] at hS hW
  have hb := (Box2.made w vS vW 25).below h1
  exact ⟨hb, DBox.store hb hS hW, below_set2 (below_trans (al w _) h1) (Nat.le_refl _)⟩

/-- Appending the writes of a disk, which may be none, to a row of the call's own. -/
theorem wpList_append_writes {w : World} {ops : Array Oper} {rest : List Oper} {o : Oper} {a : Act} {Q : Exit → Act → World → Prop} (hgd : o.guard = none) (s x : Operand)
    (ho : o.op = .call { callee := .builtin .append, args := #[s, x], argTypes := #[23, 23] })
    (base : Nat) (v : Value) (hs : a.eval s = v) (hown : w.ownsRow base 43 2 v 0 []) (u : Value) (ws : List (Int × ByteArray)) (hx : a.eval x = u) (hrow : WRow w u ws) (hl : ws.length ≤ 1000) (hbase : base ≤ w.heap.size)
    (h : ∀ v' w', OwnW base v' ws w' → w.grownBy w' v.ownBlock → wpList Try.prog ops Q rest (a.put o.dst v') w') : wpList Try.prog ops Q (o :: rest) a w := by
  obtain ⟨i0, hi, hz0, hz1, hz2⟩ := info_parts Try.infoW
  have H := hrow
  rcases hrow with ⟨rfl, rfl⟩ | ⟨g, cap, rfl, hc, hg, hcell⟩
  · exact wpList_append_own_none hgd s x _ ho base 43 i0 2 Try.underlying23 hi v 0 [] hs hown hx (h v w hown (World.grownBy.refl _ _))
  · refine wpList_append_own w hgd s x 23 ho base 43 i0 (.agg #[.int .i64 0, .string ⟨#[]⟩]) 2 24 Try.underlying23 hi hz0 hz1 hz2 rfl (by decide) v 0 [] hs hown ⟨g, 0, none⟩ ws.length cap (wcells ws) hx (wcells_len ws) H.news (wcells_one ws) (by unfold maxLen; omega) (by omega) hbase ?_
    intro v' w1 hown' hgrow _
    refine h v' w1 ?_ hgrow
    unfold OwnW
    rw [Nat.zero_add, List.nil_append] at hown'
    exact hown'

/-- Behind the first append: the box of the disk that is wanted, the writes in a row of their own; nothing that lay has turned. -/
def Mid (x : World) (dS dW v : Value) (ws : List (Int × ByteArray)) (W : World) : Prop := Box2 x.heap.size dS dW W ∧ OwnW (x.heap.size + 1) v ws W ∧ Below x.heap.size x W
theorem mid_made {x w1 : World} {dS dW v : Value} {ws : List (Int × ByteArray)} {u : Value} (hu : u = .slice (some ⟨x.heap.size + 1, 0, none⟩) 0 0)
    (hg : ((x.alloc (.cells #[dS, dW] 25)).alloc (.cells #[] 43)).grownBy w1 u.ownBlock) (hv : OwnW (x.heap.size + 1) v ws w1) : Mid x dS dW v ws w1 := by
  subst hu
  have hx := below_trans (al x (.cells #[dS, dW] 25)) (al _ (.cells #[] 43))
  refine ⟨((Box2.made x dS dW 25).below (al _ _)).grown hg (by simp [Value.ownBlock]), hv, hx.grown hg hx.size (fun k e => ?_)⟩
  simp [Value.ownBlock] at e
  omega
theorem Mid.below {x W W' : World} {dS dW v : Value} {ws : List (Int × ByteArray)} (h : Mid x dS dW v ws W) (hb : Below W.heap.size W W') : Mid x dS dW v ws W' := ⟨h.1.below hb, h.2.1.below hb, below_trans h.2.2 hb⟩
theorem Mid.last {x W w1 : World} {dS dW v : Value} {ws : List (Int × ByteArray)} {i : Int} {t : ByteArray} {gg cap : Nat} (h : Mid x dS dW v ws W) (hg : W.grownBy w1 v.ownBlock)
    (hown : w1.ownsRow (x.heap.size + 1) 43 2 (.slice (some ⟨gg, 0, none⟩) (ws.length + 1) cap) (ws.length + 1) (wcells ws ++ [.int .i64 i, .string t])) :
    Box2 x.heap.size dS dW w1 ∧ Box2 x.heap.size dS (.slice (some ⟨gg, 0, none⟩) (ws.length + 1) cap) (w1.setCell ⟨x.heap.size, 1, none⟩ (.slice (some ⟨gg, 0, none⟩) (ws.length + 1) cap)) ∧
    WRow (w1.setCell ⟨x.heap.size, 1, none⟩ (.slice (some ⟨gg, 0, none⟩) (ws.length + 1) cap)) (.slice (some ⟨gg, 0, none⟩) (ws.length + 1) cap) (ws ++ [(i, t)]) ∧
    Below x.heap.size x (w1.setCell ⟨x.heap.size, 1, none⟩ (.slice (some ⟨gg, 0, none⟩) (ws.length + 1) cap)) := by
  obtain ⟨h1, h2, h3⟩ := h
  have hlt := fun k e => (World.ownsRow.lt h2 k e).1
  have k1 := h1.grown hg (fun e => by have := hlt _ e.symm; omega)
  have kW : OwnW (x.heap.size + 1) (.slice (some ⟨gg, 0, none⟩) (ws.length + 1) cap) (ws ++ [(i, t)]) w1 := by
    unfold OwnW
    rw [wcells_snoc, List.length_append]
    exact hown
  have kB : Below x.heap.size x w1 := h3.grown hg h3.size (fun k e => by have := hlt k e; omega)
  exact ⟨k1, k1.set1 _, (kW.setBelow (b := x.heap.size) (by omega)).row, kB.setCell (p := ⟨x.heap.size, 1, none⟩) (by simp) _⟩

/-- The disks of the law, each in a block of its own. -/
structure Six where
  (dS dW nS nW aS aW bS bW cS cW : Value)
  (nb ab bb cb zb : Nat)
def All (w : World) (x : Six) (ls nl ll bl cl : List ByteArray) (ws aw : List (Int × ByteArray)) (W : World) : Prop :=
  DBox w.heap.size x.dS x.dW ls ws W ∧ DBox x.nb x.nS x.nW nl [] W ∧ DBox x.ab x.aS x.aW ll aw W ∧ DBox x.bb x.bS x.bW bl [] W ∧ DBox x.cb x.cS x.cW cl [] W ∧ DBox x.zb (.slice none 0 0) (.slice none 0 0) [] [] W ∧ Below w.heap.size w W
theorem All.below {w : World} {x : Six} {ls nl ll bl cl : List ByteArray} {ws aw : List (Int × ByteArray)} {W W' : World} (h : All w x ls nl ll bl cl ws aw W) (hb : Below W.heap.size W W') : All w x ls nl ll bl cl ws aw W' :=
  ⟨h.1.below hb, h.2.1.below hb, h.2.2.1.below hb, h.2.2.2.1.below hb, h.2.2.2.2.1.below hb, h.2.2.2.2.2.1.below hb, below_trans h.2.2.2.2.2.2 hb⟩

set_option maxRecDepth 100000 in
set_option maxHeartbeats 8000000 in
theorem walk0 (vS vW : Value) (n i : Int) (s : ByteArray) (hs : s.size ≤ maxLen) (kp : Nat) (hkp : kp < 18446744073709551616) (t : Int) (w : World) (hS : ArgS w vS) (hW : ArgW w vW) : Calls Try.prog 3 #[.agg #[vS, vW], .int .i64 n, .int .i64 i, .string s, .int .u64 kp, .int .i64 t] w (BoolB true w) := by
  unfold maxLen at hs
  have HFE := Lib.hid (fun o => few_any (ArgS.below hS (below_trans (al w o) ((Below.refl _ _).drew))) (ArgW.below hW (below_trans (al w o) ((Below.refl _ _).drew))))
  obtain ⟨aS, len, cap, rfl, _⟩ := hS
  obtain ⟨aW, lenW, capW, rfl, _⟩ := hW
  go_enter Try.func3, Try.ntmps3
  go_upto_region 1 with (fail)
  go_cut [3] from 25 to 31 (fun s wx => Cut1 w s wx)
  case first =>
    obtain ⟨q, hq, hqs, hq64⟩ : ∃ q : Nat, min (s.size : Int) 66 = q ∧ q ≤ s.size ∧ q ≤ 66 := ⟨min s.size 66, by omega, by omega, by omega⟩
    have i0 : (0 : Int) ≤ (q : Int) := by omega
    have i1 : (q : Int) ≤ (s.size : Int) := by omega
    have i2 : ¬ (q : Int) < 0 := by omega
    have i3 : ¬ (s.size : Int) < (q : Int) := by omega
    go_region_with (go_at_call 6; (with_reducible refine (HFE.out _).mono ?_); rintro e x ⟨uS, uW, ls, ws, rfl, h1, h2, h3, h4, hS, hW, hx⟩; have HST := Lib.hid (few_stored hx hS hW); have HSM := Lib.hid (small_few h1 h2 h3 h4); obtain ⟨aS', cap', rfl⟩ := hS.1.slice; obtain ⟨aW', capW', rfl⟩ := hW.1.slice; obtain ⟨q0, q1, q2, q3, q4⟩ := HST.out.1; clear hS hW hx h3 h4)
    all_goals (try go_wp2_with fail)
    all_goals go_meet
    all_goals exact ⟨aS', aW', cap', capW', ls, ws, s.extract 0 q, rfl, by rw [ByteArray.size_extract]; omega, HSM.out, HST.out.2.1, HST.out.2.2⟩
  case rest =>
    clear HFE hs
    obtain ⟨dA, dB, dc, dC, ls, ws, d, rfl, hd, hsm, hDB, hbe⟩ := hcut
    have HDB := Lib.hid hDB
    have HBE := Lib.hid hbe
    have HSM := Lib.hid hsm
    obtain ⟨⟨b0, b1, b2, b3, b4⟩, _, _⟩ := hDB
    clear hbe hsm
    go_wp2_with fail
    refine (New_any n _).mono ?_
    rintro e x1 ⟨cS, cW, rfl, hS, hW, hx⟩
    generalize hL : newL n = NL at hS
    have HQnL := Lib.hid hL
    clear hL
    generalize hE : newE n = NE
    have HQnE := Lib.hid hE
    clear hE
    obtain ⟨nA, nc, rfl⟩ := hS.1.slice
    obtain ⟨nB, nC, rfl⟩ := hW.1.slice
    clear b0 b1 b2 b3 b4
    obtain ⟨⟨b0, b1, b2, b3, b4⟩, _, _⟩ := HDB.out.below hx
    replace HDB := Lib.hid ((HDB.out.below hx).below (al x1 (.cells #[.slice nA NL.length nc, .slice nB 0 nC] 25)))
    have HBn := Lib.hid (DBox.made (uS := .slice nA NL.length nc) (uW := .slice nB 0 nC) (l := NL) (m := []) hS.1 hW.1)
    replace HBE := Lib.hid (below_trans (below_trans HBE.out hx) (al x1 (.cells #[.slice nA NL.length nc, .slice nB 0 nC] 25)))
    clear hS hW hx
    go_wp2_with fail
    refine (Put_any HDB.out.2.1 HDB.out.2.2 HSM.out i d).mono ?_
    rintro e x2 ⟨cS, cW, rfl, hS, hW, hx⟩
    generalize hL : putL ls ws i d = AL at hS
    have HQaL := Lib.hid hL
    clear hL
    generalize hM : putW ls ws i d = AM at hW
    have HQaM := Lib.hid hM
    clear hM
    generalize hE : putR ls ws i d = AE
    have HQaE := Lib.hid hE
    clear hE
    obtain ⟨aA, ac, rfl⟩ := hS.1.slice
    obtain ⟨aB, aC, rfl⟩ := hW.1.slice
    clear b0 b1 b2 b3 b4
    obtain ⟨⟨b0, b1, b2, b3, b4⟩, _, _⟩ := HDB.out.below hx
    replace HDB := Lib.hid ((HDB.out.below hx).below (al x2 (.cells #[.slice aA AL.length ac, .slice aB AM.length aC] 25)))
    replace HBn := Lib.hid ((HBn.out.below hx).below (al x2 (.cells #[.slice aA AL.length ac, .slice aB AM.length aC] 25)))
    have HBa := Lib.hid (DBox.made (uS := .slice aA AL.length ac) (uW := .slice aB AM.length aC) (l := AL) (m := AM) hS.1 hW.1)
    replace HBE := Lib.hid (below_trans (below_trans HBE.out hx) (al x2 (.cells #[.slice aA AL.length ac, .slice aB AM.length aC] 25)))
    clear hS hW hx
    go_wp2_with fail
    refine (Get_all HDB.out.2.1 HDB.out.2.2 HSM.out i).mono ?_
    rintro e x3 ⟨rfl, hx⟩
    generalize hL : getSS ls ws i = gs
    have HQgS := Lib.hid hL
    clear hL
    generalize hE : getEE ls ws i = ge
    have HQgE := Lib.hid hE
    clear hE
    clear b0 b1 b2 b3 b4
    replace HDB := Lib.hid (HDB.out.below hx)
    replace HBn := Lib.hid (HBn.out.below hx)
    replace HBa := Lib.hid (HBa.out.below hx)
    replace HBE := Lib.hid (below_trans HBE.out hx)
    obtain ⟨⟨b0, b1, b2, b3, b4⟩, _, _⟩ := HDB.out
    clear hx
    go_wp2_with fail
    refine (Flush_all HDB.out.2.1 HDB.out.2.2 HSM.out).mono ?_
    rintro e x4 ⟨cS, cW, rfl, hS, hW, hx⟩
    generalize hL : crashR 18446744073709551615 ls ws 0 = FL at hS
    have HQfL := Lib.hid hL
    clear hL
    generalize hE : rightE ls ws = FE
    have HQfE := Lib.hid hE
    clear hE
    obtain ⟨fA, fc, rfl⟩ := hS.1.slice
    obtain ⟨fB, fC, rfl⟩ := hW.1.slice
    clear b0 b1 b2 b3 b4
    obtain ⟨⟨b0, b1, b2, b3, b4⟩, _, _⟩ := HDB.out.below hx
    replace HDB := Lib.hid ((HDB.out.below hx).below (al x4 (.cells #[.slice fA FL.length fc, .slice fB 0 fC] 25)))
    replace HBn := Lib.hid ((HBn.out.below hx).below (al x4 (.cells #[.slice fA FL.length fc, .slice fB 0 fC] 25)))
    replace HBa := Lib.hid ((HBa.out.below hx).below (al x4 (.cells #[.slice fA FL.length fc, .slice fB 0 fC] 25)))
    have HBf := Lib.hid (DBox.made (uS := .slice fA FL.length fc) (uW := .slice fB 0 fC) (l := FL) (m := []) hS.1 hW.1)
    replace HBE := Lib.hid (below_trans (below_trans HBE.out hx) (al x4 (.cells #[.slice fA FL.length fc, .slice fB 0 fC] 25)))
    clear hS hW hx
    go_wp2_with fail
    refine (Crash_all HDB.out.2.1 HDB.out.2.2 HSM.out kp hkp t).mono ?_
    rintro e x5 ⟨cS, cW, rfl, hS, hW, hx⟩
    generalize hL : crashR kp ls ws t = CL at hS
    have HQcL := Lib.hid hL
    clear hL
    generalize hE : rightE ls ws = CE
    have HQcE := Lib.hid hE
    clear hE
    obtain ⟨cA, cc, rfl⟩ := hS.1.slice
    obtain ⟨cB, cC, rfl⟩ := hW.1.slice
    clear b0 b1 b2 b3 b4
    obtain ⟨⟨b0, b1, b2, b3, b4⟩, _, _⟩ := HDB.out.below hx
    replace HDB := Lib.hid ((HDB.out.below hx).below (al x5 (.cells #[.slice cA CL.length cc, .slice cB 0 cC] 25)))
    replace HBn := Lib.hid ((HBn.out.below hx).below (al x5 (.cells #[.slice cA CL.length cc, .slice cB 0 cC] 25)))
    replace HBa := Lib.hid ((HBa.out.below hx).below (al x5 (.cells #[.slice cA CL.length cc, .slice cB 0 cC] 25)))
    replace HBf := Lib.hid ((HBf.out.below hx).below (al x5 (.cells #[.slice cA CL.length cc, .slice cB 0 cC] 25)))
    have HBc := Lib.hid (DBox.made (uS := .slice cA CL.length cc) (uW := .slice cB 0 cC) (l := CL) (m := []) hS.1 hW.1)
    replace HBE := Lib.hid (below_trans (below_trans HBE.out hx) (al x5 (.cells #[.slice cA CL.length cc, .slice cB 0 cC] 25)))
    clear hS hW hx
    go_upto_region 8 with (fail)
    have HAL : Hid (All w ⟨.slice dA ls.length dc, .slice dB ws.length dC, .slice nA NL.length nc, .slice nB 0 nC, .slice aA AL.length ac, .slice aB AM.length aC, .slice fA FL.length fc, .slice fB 0 fC, .slice cA CL.length cc, .slice cB 0 cC, x1.heap.size, x2.heap.size, x4.heap.size, x5.heap.size, x5.heap.size + 1⟩ ls NL AL FL CL ws AM ((x5.alloc (.cells #[.slice cA CL.length cc, .slice cB 0 cC] 25)).alloc (.cells #[.slice none 0 0, .slice none 0 0] 25))) := by
      have hz := DBox.made (uS := .slice none 0 0) (uW := .slice none 0 0) (l := []) (m := []) (W := x5.alloc (.cells #[.slice cA CL.length cc, .slice cB 0 cC] 25)) (.inl ⟨rfl, rfl⟩) (.inl ⟨rfl, rfl⟩)
      simp only [World.size_alloc] at hz
      exact ⟨HDB.out.below (al _ _), HBn.out.below (al _ _), HBa.out.below (al _ _), HBf.out.below (al _ _), HBc.out.below (al _ _), hz, below_trans HBE.out (al _ _)⟩
    clear b0 b1 b2 b3 b4 HDB HBn HBa HBf HBc HBE
    generalize ((x5.alloc (.cells #[.slice cA CL.length cc, .slice cB 0 cC] 25)).alloc (.cells #[.slice none 0 0, .slice none 0 0] 25)) = W at HAL ⊢
    generalize x5.heap.size + 1 = zb at HAL ⊢
    generalize x5.heap.size = cb at HAL ⊢
    generalize x4.heap.size = bb at HAL ⊢
    generalize x2.heap.size = ab at HAL ⊢
    generalize x1.heap.size = nb at HAL ⊢
    go_cut [68] from 63 to 67 (fun v wx => v = .bool (!mayB n) ∧ W = wx)
    case first =>
      by_cases h1 : n < 1
      · have e : mayB n = false := mayB_f.2 (by omega)
        go_wp2_with fail
        go_meet
        exact ⟨by rw [e]; rfl, rfl⟩
      · by_cases h2 : 512 < n
        · have e : mayB n = false := mayB_f.2 (by omega)
          go_wp2_with fail
          go_meet
          exact ⟨by rw [e]; simp, rfl⟩
        · have e : mayB n = true := mayB_t.2 ⟨by omega, by omega⟩
          go_wp2_with fail
          go_meet
          exact ⟨by rw [e]; simp, rfl⟩
    case rest =>
      obtain ⟨rfl, rfl⟩ := hcut
      go_upto_if 68 with fail
      go_cut [68] from 69 to 106 (fun _ wx => All w ⟨.slice dA ls.length dc, .slice dB ws.length dC, .slice nA NL.length nc, .slice nB 0 nC, .slice aA AL.length ac, .slice aB AM.length aC, .slice fA FL.length fc, .slice fB 0 fC, .slice cA CL.length cc, .slice cB 0 cC, nb, ab, bb, cb, zb⟩ ls NL AL FL CL ws AM wx)
      case first =>
        obtain ⟨_, ⟨⟨b0, b1, b2, b3, b4⟩, hnS, hnW⟩, _, _, _, ⟨⟨z0, z1, z2, z3, z4⟩, _, _⟩, _⟩ := HAL.out
        dsimp only at b0 b1 b2 b3 b4 hnS hnW z0 z1 z2 z3 z4
        by_cases hmb : mayB n = true
        case neg =>
          have hmf : mayB n = false := by simpa using hmb
          obtain rfl : NE = 1 := by rw [← HQnE.out]; exact if_neg hmb
          obtain rfl : NL = [] := by rw [← HQnL.out]; exact if_neg hmb
          rw [hmf]
          have HLK := Lib.hid (Like_yes hnS hnW (.inl ⟨rfl, rfl⟩) (.inl ⟨rfl, rfl⟩) (by simp) (by simp))
          clear hnS hnW hmb
          go_wp2_with fail
          refine HLK.out.mono ?_
          rintro e x ⟨rfl, hx⟩
          have HX := Lib.hid (HAL.out.below hx)
          clear hx b0 b1 b2 b3 b4 z0 z1 z2 z3 z4 HLK
          go_wp2_with fail
          go_meet
          exact HX.out
        have hmn := mayB_t.1 hmb
        obtain rfl : NE = 0 := by rw [← HQnE.out]; exact if_pos hmb
        have hNL : NL = List.replicate n.toNat zeros := by rw [← HQnL.out]; exact if_pos hmb
        have hNn : NL.length = n.toNat := by rw [hNL, List.length_replicate]
        obtain rfl : n = (NL.length : Int) := by omega
        rw [hmb]
        have HNS := Lib.hid hnS
        have HNW := Lib.hid hnW
        have hz : ∀ j (h : j < NL.length), NL[j] = zeros := fun j h => by
          have : NL[j] ∈ List.replicate (NL.length : Int).toNat zeros := by rw [← hNL]; exact List.getElem_mem h
          exact (List.mem_replicate.1 this).2
        have HZ := Lib.hid hz
        have HRR : Hid (rightB NL [] = true) := rightB_t.2 ⟨by omega, by omega, by simp, fun j h => by rw [hz j h]; exact zeros_size, fun j h => by simp at h⟩
        clear hnS hnW hmb HQnL HQnE hNL hNn hz
        obtain ⟨gn, rfl, hnc, hgn, cn⟩ := HNS.out.at (q := NL.length - 1) (by omega)
        rw [HZ.out _ (by omega)] at cn
        have HRC : Hid (∀ W', Below W.heap.size W W' → Calls Try.prog 14 #[.agg #[.slice (some ⟨gn, 0, none⟩) NL.length nc, .slice nB 0 nC]] W' (BoolB true W')) := fun W' h => by
          have := refRight_any (HNS.out.below h) (HNW.out.below h) (small_of HRR.out)
          rwa [HRR.out] at this
        go_upto_region 11 with (fail)
        have i0 : IntKind.i64.wrap ((NL.length : Int) - 1) = (NL.length : Int) - 1 := IntWalk.i64_in _ (by omega)
        have i1 : (0 : Int) ≤ (NL.length : Int) - 1 := by omega
        have i2 : (NL.length : Int) - 1 < (NL.length : Int) := by omega
        have i3 : ((NL.length : Int) - 1).toNat = NL.length - 1 := by omega
        have i5 : NL.length - 1 < NL.length := by omega
        generalize hzz : zeros = zz at cn
        have HZZ := Lib.hid hzz
        clear hzz
        go_region_held3 (fun w' => w'.cell? ⟨nb, 0, none⟩ = some (.slice (some ⟨gn, 0, none⟩) NL.length nc) ∧ w'.cell? ⟨nb, 1, none⟩ = some (.slice nB 0 nC) ∧ w'.cell? ⟨gn, NL.length - 1, none⟩ = some (.string zz)) (first | exact ⟨b1, b2, cn⟩ | exact ⟨p1, p2, p3⟩ | exact ⟨r1, r2, r3⟩ | fail)
          (first
            | (go_at_call 13; (with_reducible refine (Repeat0_any _).mono ?_); rintro e x ⟨rfl, hx⟩; have HX := Lib.hid (below_trans ((Below.refl _ _).drew) hx : Below W.heap.size W x); rw [HZZ.out]; have p1 := (HX.out.cell (p := ⟨nb, 0, none⟩) b0).trans b1; have p2 := (HX.out.cell (p := ⟨nb, 1, none⟩) b0).trans b2; have p3 := (HX.out.cell (p := ⟨gn, NL.length - 1, none⟩) hgn).trans cn; clear hx)
            | (go_at_call 14; (with_reducible refine (HRC.out _ HX.out).mono ?_); rintro e y ⟨rfl, hy⟩; have HY := Lib.hid (below_trans HX.out hy); have r1 := (HY.out.cell (p := ⟨nb, 0, none⟩) b0).trans b1; have r2 := (HY.out.cell (p := ⟨nb, 1, none⟩) b0).trans b2; have r3 := (HY.out.cell (p := ⟨gn, NL.length - 1, none⟩) hgn).trans cn; clear hy)
            | fail)
        have HAY := Lib.hid (HAL.out.below HY.out)
        clear b0 b1 b2 b3 b4 z0 z1 z2 z3 z4 p1 p2 p3 r1 r2 r3 i0 i1 i2 i3 i5 cn
        go_wp2_with fail
        go_meet
        exact HAY.out
      case rest =>
        clear HAL HQnL HQnE
        have HA := Lib.hid hcut
        clear hcut
        obtain ⟨⟨b0, b1, b2, b3, b4⟩, _, _⟩ := HA.out.1
        dsimp only at b0 b1 b2 b3 b4
        have HD0 := Lib.hid ((Below.refl _ wc).drew : Below wc.heap.size wc wc.drew)
        have HR1 := Lib.hid (fun W' (h : Below wc.heap.size wc W') => Right_any (HA.out.1.2.1.below h) (HA.out.1.2.2.below h) HSM.out)
        have HR2 := Lib.hid (fun W' (h : Below wc.heap.size wc W') => refRight_any (HA.out.1.2.1.below h) (HA.out.1.2.2.below h) HSM.out)
        dsimp only at HR1 HR2
        by_cases hb : rightB ls ws = true
        case neg =>
          have hbf : rightB ls ws = false := by simpa using hb
          rw [hbf] at HR1 HR2
          obtain rfl : gs = ⟨#[]⟩ := by rw [← HQgS.out]; exact if_neg hb
          obtain rfl : ge = 1 := by rw [← HQgE.out]; exact if_neg hb
          obtain rfl : AE = 1 := by rw [← HQaE.out]; exact if_neg hb
          obtain rfl : FE = 1 := by rw [← HQfE.out]; exact if_neg hb
          obtain rfl : CE = 1 := by rw [← HQcE.out]; exact if_neg hb
          obtain rfl : FL = [] := by rw [← HQfL.out]; exact if_neg hb
          obtain rfl : CL = [] := by rw [← HQcL.out]; exact if_neg hb
          obtain rfl : AL = [] := by rw [← HQaL.out]; unfold putL; rw [HQaE.out]; rfl
          obtain rfl : AM = [] := by rw [← HQaM.out]; unfold putW; rw [HQaE.out]; rfl
          clear HQgS HQgE HQaE HQfE HQcE HQfL HQcL HQaL HQaM hb
          go_upto_region 13 with (fail)
          go_region_held3 (fun w' => w'.cell? ⟨w.heap.size, 0, none⟩ = some (.slice dA ls.length dc) ∧ w'.cell? ⟨w.heap.size, 1, none⟩ = some (.slice dB ws.length dC)) (first | exact ⟨b1, b2⟩ | exact ⟨p1, p2⟩ | exact ⟨q1, q2⟩ | exact ⟨r1, r2⟩ | fail)
            (first
              | (go_at_call 15; (with_reducible refine (HR1.out _ HD0.out).mono ?_); rintro e x ⟨rfl, hx⟩; have HX := Lib.hid (below_trans HD0.out hx); have p1 := (HX.out.cell (p := ⟨w.heap.size, 0, none⟩) b0).trans b1; have p2 := (HX.out.cell (p := ⟨w.heap.size, 1, none⟩) b0).trans b2; clear hx)
              | (go_at_call 14; (with_reducible refine (HR2.out _ HX.out).mono ?_); rintro e y ⟨rfl, hy⟩; have HY := Lib.hid (below_trans HX.out hy); have q1 := (HY.out.cell (p := ⟨w.heap.size, 0, none⟩) b0).trans b1; have q2 := (HY.out.cell (p := ⟨w.heap.size, 1, none⟩) b0).trans b2; clear hy)
              | (go_at_call 16; (with_reducible refine (alive_any _).mono ?_); rintro e z ⟨rfl, hz⟩; have HZ := Lib.hid (below_trans HY.out hz); have r1 := (HZ.out.cell (p := ⟨w.heap.size, 0, none⟩) b0).trans b1; have r2 := (HZ.out.cell (p := ⟨w.heap.size, 1, none⟩) b0).trans b2; clear hz)
              | fail)
          replace HA := Lib.hid (HA.out.below HZ.out)
          have HR3 := Lib.hid (HR2.out _ HZ.out)
          clear b0 b1 b2 b3 b4 p1 p2 q1 q2 r1 r2 HX HY HZ HR1 HR2 HD0
          obtain ⟨⟨b0, b1, b2, b3, b4⟩, _, _⟩ := HA.out.1
          dsimp only at b0 b1 b2 b3 b4
          go_wp2_with fail
          refine HR3.out.mono ?_
          rintro e x ⟨rfl, hx⟩
          replace HA := Lib.hid (HA.out.below hx)
          clear b0 b1 b2 b3 b4 hx HR3
          obtain ⟨_, _, ⟨⟨a0, a1, a2, a3, a4⟩, haS, haW⟩, _, _, ⟨⟨z0, z1, z2, z3, z4⟩, _, _⟩, _⟩ := HA.out
          dsimp only at a0 a1 a2 a3 a4 haS haW z0 z1 z2 z3 z4
          have HL := Lib.hid (Like_yes haS haW (.inl ⟨rfl, rfl⟩) (.inl ⟨rfl, rfl⟩) (by simp) (by simp))
          clear haS haW
          go_wp2_with fail
          refine HL.out.mono ?_
          rintro e x' ⟨rfl, hx⟩
          replace HA := Lib.hid (HA.out.below hx)
          clear a0 a1 a2 a3 a4 z0 z1 z2 z3 z4 hx HL
          obtain ⟨_, _, _, ⟨⟨a0, a1, a2, a3, a4⟩, haS, haW⟩, _, ⟨⟨z0, z1, z2, z3, z4⟩, _, _⟩, _⟩ := HA.out
          dsimp only at a0 a1 a2 a3 a4 haS haW z0 z1 z2 z3 z4
          have HL := Lib.hid (Like_yes haS haW (.inl ⟨rfl, rfl⟩) (.inl ⟨rfl, rfl⟩) (by simp) (by simp))
          clear haS haW
          go_wp2_with fail
          refine HL.out.mono ?_
          rintro e x'' ⟨rfl, hx⟩
          replace HA := Lib.hid (HA.out.below hx)
          clear a0 a1 a2 a3 a4 z0 z1 z2 z3 z4 hx HL
          obtain ⟨_, _, _, _, ⟨⟨a0, a1, a2, a3, a4⟩, haS, haW⟩, ⟨⟨z0, z1, z2, z3, z4⟩, _, _⟩, _⟩ := HA.out
          dsimp only at a0 a1 a2 a3 a4 haS haW z0 z1 z2 z3 z4
          have HL := Lib.hid (Like_yes haS haW (.inl ⟨rfl, rfl⟩) (.inl ⟨rfl, rfl⟩) (by simp) (by simp))
          clear haS haW
          go_wp2_with fail
          refine HL.out.mono ?_
          rintro e x3' ⟨rfl, hx⟩
          have HBF := Lib.hid (HA.out.below hx).2.2.2.2.2.2
          clear a0 a1 a2 a3 a4 z0 z1 z2 z3 z4 hx HL
          go_wp2_with fail
          go_ret
          exact ⟨rfl, HBF.out⟩
        rw [hb] at HR1 HR2
        have hP := rightB_t.1 hb
        have HP := Lib.hid hP
        have HHB := Lib.hid hb
        obtain rfl : FE = 0 := by rw [← HQfE.out]; exact if_pos hb
        obtain rfl : CE = 0 := by rw [← HQcE.out]; exact if_pos hb
        have HFL : Hid (crashL 18446744073709551615 ls ws 0 = FL) := by unfold Hid; rw [← HQfL.out]; exact (if_pos hb).symm
        have HCL : Hid (crashL kp ls ws t = CL) := by unfold Hid; rw [← HQcL.out]; exact (if_pos hb).symm
        have HGS : Hid (getS ls ws i = gs) := by unfold Hid; rw [← HQgS.out]; exact (if_pos hb).symm
        have HGE : Hid (getE ls.length i = ge) := by unfold Hid; rw [← HQgE.out]; exact (if_pos hb).symm
        have HAE : Hid (putE ls.length ws.length i d.size = AE) := by unfold Hid; rw [← HQaE.out]; exact (if_pos hb).symm
        have HALL : Hid ((if AE = 0 then ls else []) = AL) := by unfold Hid; rw [← HQaL.out]; unfold putL; rw [HQaE.out]
        have HAMM : Hid ((if AE = 0 then ws ++ [(i, d)] else []) = AM) := by unfold Hid; rw [← HQaM.out]; unfold putW; rw [HQaE.out]
        clear HQgS HQgE HQaE HQfE HQcE HQfL HQcL HQaL HQaM hb hP
        go_upto_region 13 with (fail)
        go_region_held3 (fun w' => w'.cell? ⟨w.heap.size, 0, none⟩ = some (.slice dA ls.length dc) ∧ w'.cell? ⟨w.heap.size, 1, none⟩ = some (.slice dB ws.length dC)) (first | exact ⟨b1, b2⟩ | exact ⟨p1, p2⟩ | exact ⟨q1, q2⟩ | exact ⟨r1, r2⟩ | fail)
          (first
            | (go_at_call 15; (with_reducible refine (HR1.out _ HD0.out).mono ?_); rintro e x ⟨rfl, hx⟩; have HX := Lib.hid (below_trans HD0.out hx); have p1 := (HX.out.cell (p := ⟨w.heap.size, 0, none⟩) b0).trans b1; have p2 := (HX.out.cell (p := ⟨w.heap.size, 1, none⟩) b0).trans b2; clear hx)
            | (go_at_call 14; (with_reducible refine (HR2.out _ HX.out).mono ?_); rintro e y ⟨rfl, hy⟩; have HY := Lib.hid (below_trans HX.out hy); have q1 := (HY.out.cell (p := ⟨w.heap.size, 0, none⟩) b0).trans b1; have q2 := (HY.out.cell (p := ⟨w.heap.size, 1, none⟩) b0).trans b2; clear hy)
            | (go_at_call 16; (with_reducible refine (alive_any _).mono ?_); rintro e z ⟨rfl, hz⟩; have HZ := Lib.hid (below_trans HY.out hz); have r1 := (HZ.out.cell (p := ⟨w.heap.size, 0, none⟩) b0).trans b1; have r2 := (HZ.out.cell (p := ⟨w.heap.size, 1, none⟩) b0).trans b2; clear hz)
            | fail)
        replace HA := Lib.hid (HA.out.below HZ.out)
        have HR3 := Lib.hid (HR2.out _ HZ.out)
        clear b0 b1 b2 b3 b4 p1 p2 q1 q2 r1 r2 HX HY HZ HR1 HR2 HD0
        obtain ⟨⟨b0, b1, b2, b3, b4⟩, _, _⟩ := HA.out.1
        dsimp only at b0 b1 b2 b3 b4
        go_wp2_with fail
        refine HR3.out.mono ?_
        rintro e x ⟨rfl, hx⟩
        replace HA := Lib.hid (HA.out.below hx)
        clear b0 b1 b2 b3 b4 hx HR3
        have hfl : FL.length ≤ 1000 := by have := HP.out.2.1; rw [← HFL.out, crashL_len]; omega
        have hcl : CL.length ≤ 1000 := by have := HP.out.2.1; rw [← HCL.out, crashL_len]; omega
        have HFLN := Lib.hid hfl
        have HCLN := Lib.hid hcl
        clear hfl hcl
        have HC1 : Hid (∀ W', Below x.heap.size x W' → Calls Try.prog 17 #[.agg #[.slice dA ls.length dc, .slice dB ws.length dC], .int .u64 18446744073709551615, .int .i64 0] W' (DiskD FL [] W')) := fun W' h => by
          have := refCrash_any (HA.out.1.2.1.below h) (HA.out.1.2.2.below h) HHB.out 18446744073709551615 (by omega) 0
          rw [HFL.out] at this
          exact this
        have HC2 : Hid (∀ W', Below x.heap.size x W' → Calls Try.prog 17 #[.agg #[.slice dA ls.length dc, .slice dB ws.length dC], .int .u64 kp, .int .i64 t] W' (DiskD CL [] W')) := fun W' h => by
          have := refCrash_any (HA.out.1.2.1.below h) (HA.out.1.2.2.below h) HHB.out kp hkp t
          rw [HCL.out] at this
          exact this
        obtain ⟨⟨⟨d0, d1, d2, _, _⟩, _, _⟩, _, _, ⟨⟨b0, b1, b2, _, _⟩, _, _⟩, ⟨⟨c0, c1, c2, _, _⟩, _, _⟩, _, _⟩ := HA.out
        dsimp only at d0 d1 d2 b0 b1 b2 c0 c1 c2
        have HE0 := Lib.hid ((Below.refl _ x).drew : Below x.heap.size x x.drew)
        go_upto_region 17 with (fail)
        go_region_held3 (fun w' => w'.cell? ⟨w.heap.size, 0, none⟩ = some (.slice dA ls.length dc) ∧ w'.cell? ⟨w.heap.size, 1, none⟩ = some (.slice dB ws.length dC) ∧ w'.cell? ⟨bb, 0, none⟩ = some (.slice fA FL.length fc) ∧ w'.cell? ⟨bb, 1, none⟩ = some (.slice fB 0 fC) ∧ w'.cell? ⟨cb, 0, none⟩ = some (.slice cA CL.length cc) ∧ w'.cell? ⟨cb, 1, none⟩ = some (.slice cB 0 cC)) (first | exact ⟨d1, d2, b1, b2, c1, c2⟩ | exact ⟨p1, p2, p3, p4, p5, p6⟩ | exact ⟨q1, q2, q3, q4, q5, q6⟩ | exact ⟨r1, r2, r3, r4, r5, r6⟩ | exact ⟨u1, u2, u3, u4, u5, u6⟩ | fail)
          (first
            | (go_at_call 17; (with_reducible refine (HC1.out _ HE0.out).mono ?_); rintro e y1 ⟨rS, rW, rfl, hrS, hrW, hy⟩; have HY1 := Lib.hid (below_trans HE0.out hy); obtain ⟨rA, rc, rfl⟩ := hrS.slice; obtain ⟨rB, rC, rfl⟩ := hrW.slice; have HL1 : Hid (Calls Try.prog 12 #[.agg #[.slice fA FL.length fc, .slice fB 0 fC], .agg #[.slice rA FL.length rc, .slice rB 0 rC]] y1 (BoolB true y1)) := Like_yes (HA.out.below HY1.out).2.2.2.1.2.1 (HA.out.below HY1.out).2.2.2.1.2.2 hrS hrW HFLN.out (by simp); have p1 := (HY1.out.cell (p := ⟨w.heap.size, 0, none⟩) d0).trans d1; have p2 := (HY1.out.cell (p := ⟨w.heap.size, 1, none⟩) d0).trans d2; have p3 := (HY1.out.cell (p := ⟨bb, 0, none⟩) b0).trans b1; have p4 := (HY1.out.cell (p := ⟨bb, 1, none⟩) b0).trans b2; have p5 := (HY1.out.cell (p := ⟨cb, 0, none⟩) c0).trans c1; have p6 := (HY1.out.cell (p := ⟨cb, 1, none⟩) c0).trans c2; clear hrS hrW hy)
            | (go_at_call 12; (with_reducible refine HL1.out.mono ?_); rintro e y2 ⟨rfl, hy⟩; have HY2 := Lib.hid (below_trans HY1.out hy); have q1 := (HY2.out.cell (p := ⟨w.heap.size, 0, none⟩) d0).trans d1; have q2 := (HY2.out.cell (p := ⟨w.heap.size, 1, none⟩) d0).trans d2; have q3 := (HY2.out.cell (p := ⟨bb, 0, none⟩) b0).trans b1; have q4 := (HY2.out.cell (p := ⟨bb, 1, none⟩) b0).trans b2; have q5 := (HY2.out.cell (p := ⟨cb, 0, none⟩) c0).trans c1; have q6 := (HY2.out.cell (p := ⟨cb, 1, none⟩) c0).trans c2; clear hy)
            | (go_at_call 17; (with_reducible refine (HC2.out _ HY2.out).mono ?_); rintro e y3 ⟨rS, rW, rfl, hrS, hrW, hy⟩; have HY3 := Lib.hid (below_trans HY2.out hy); obtain ⟨rA2, rc2, rfl⟩ := hrS.slice; obtain ⟨rB2, rC2, rfl⟩ := hrW.slice; have HL2 : Hid (Calls Try.prog 12 #[.agg #[.slice cA CL.length cc, .slice cB 0 cC], .agg #[.slice rA2 CL.length rc2, .slice rB2 0 rC2]] y3 (BoolB true y3)) := Like_yes (HA.out.below HY3.out).2.2.2.2.1.2.1 (HA.out.below HY3.out).2.2.2.2.1.2.2 hrS hrW HCLN.out (by simp); have r1 := (HY3.out.cell (p := ⟨w.heap.size, 0, none⟩) d0).trans d1; have r2 := (HY3.out.cell (p := ⟨w.heap.size, 1, none⟩) d0).trans d2; have r3 := (HY3.out.cell (p := ⟨bb, 0, none⟩) b0).trans b1; have r4 := (HY3.out.cell (p := ⟨bb, 1, none⟩) b0).trans b2; have r5 := (HY3.out.cell (p := ⟨cb, 0, none⟩) c0).trans c1; have r6 := (HY3.out.cell (p := ⟨cb, 1, none⟩) c0).trans c2; clear hrS hrW hy)
            | (go_at_call 12; (with_reducible refine HL2.out.mono ?_); rintro e y4 ⟨rfl, hy⟩; have HY4 := Lib.hid (below_trans HY3.out hy); have u1 := (HY4.out.cell (p := ⟨w.heap.size, 0, none⟩) d0).trans d1; have u2 := (HY4.out.cell (p := ⟨w.heap.size, 1, none⟩) d0).trans d2; have u3 := (HY4.out.cell (p := ⟨bb, 0, none⟩) b0).trans b1; have u4 := (HY4.out.cell (p := ⟨bb, 1, none⟩) b0).trans b2; have u5 := (HY4.out.cell (p := ⟨cb, 0, none⟩) c0).trans c1; have u6 := (HY4.out.cell (p := ⟨cb, 1, none⟩) c0).trans c2; clear hy)
            | fail)
        replace HA := Lib.hid (HA.out.below HY4.out)
        clear p1 p2 p3 p4 p5 p6 q1 q2 q3 q4 q5 q6 r1 r2 r3 r4 r5 r6 u1 u2 u3 u4 u5 u6 d0 d1 d2 b0 b1 b2 c0 c1 c2 HE0 HC1 HC2 HL1 HL2 HY1 HY2 HY3 HY4
        obtain ⟨⟨⟨d0, d1, d2, d3, d4⟩, _, _⟩, _⟩ := HA.out
        dsimp only at d0 d1 d2 d3 d4
        have hls := HP.out.2.1
        have hws := HP.out.2.2.1
        by_cases hhi : hasB ls.length i = true
        case neg =>
          have hhf : hasB ls.length i = false := by simpa using hhi
          obtain rfl : AE = 8 := by rw [← HAE.out]; exact if_pos hhf
          obtain rfl : ge = 8 := by rw [← HGE.out]; exact if_neg hhi
          obtain rfl : gs = ⟨#[]⟩ := by rw [← HGS.out]; exact if_neg hhi
          obtain rfl : AL = [] := by rw [← HALL.out]; rfl
          obtain rfl : AM = [] := by rw [← HAMM.out]; rfl
          clear HAE HGE HGS HALL HAMM hhf
          by_cases hi0 : i < 0
          · obtain ⟨_, _, ⟨⟨a0, a1, a2, a3, a4⟩, haS, haW⟩, _, _, ⟨⟨z0, z1, z2, z3, z4⟩, _, _⟩, _⟩ := HA.out
            dsimp only at a0 a1 a2 a3 a4 haS haW z0 z1 z2 z3 z4
            have HL := Lib.hid (Like_yes haS haW (.inl ⟨rfl, rfl⟩) (.inl ⟨rfl, rfl⟩) (by simp) (by simp))
            clear haS haW
            go_wp2_with fail
            refine HL.out.mono ?_
            rintro e x' ⟨rfl, hx⟩
            have HBF := Lib.hid (HA.out.below hx).2.2.2.2.2.2
            clear a0 a1 a2 a3 a4 z0 z1 z2 z3 z4 hx HL
            go_wp2_with fail
            go_ret
            exact ⟨rfl, HBF.out⟩
          · have hi1 : (ls.length : Int) ≤ i := by
              apply Classical.byContradiction
              intro hc
              exact hhi (hasB_t.2 ⟨by omega, by omega⟩)
            obtain ⟨_, _, ⟨⟨a0, a1, a2, a3, a4⟩, haS, haW⟩, _, _, ⟨⟨z0, z1, z2, z3, z4⟩, _, _⟩, _⟩ := HA.out
            dsimp only at a0 a1 a2 a3 a4 haS haW z0 z1 z2 z3 z4
            have HL := Lib.hid (Like_yes haS haW (.inl ⟨rfl, rfl⟩) (.inl ⟨rfl, rfl⟩) (by simp) (by simp))
            clear haS haW
            go_wp2_with fail
            refine HL.out.mono ?_
            rintro e x' ⟨rfl, hx⟩
            have HBF := Lib.hid (HA.out.below hx).2.2.2.2.2.2
            clear a0 a1 a2 a3 a4 z0 z1 z2 z3 z4 hx HL
            go_wp2_with fail
            go_ret
            exact ⟨rfl, HBF.out⟩
        have hhh := hasB_t.1 hhi
        obtain ⟨ii, rfl⟩ : ∃ ii : Nat, i = ii := ⟨i.toNat, by omega⟩
        have hil : ii < ls.length := by omega
        obtain rfl : ge = 0 := by rw [← HGE.out]; exact if_pos hhi
        have HGR : Hid (rd ii ls[ii] ws = gs) := by
          unfold Hid
          rw [← HGS.out]
          unfold getS
          rw [if_pos hhi, Int.toNat_natCast, getD_eq hil]
        have HRG : Hid (∀ W', Below y4.heap.size y4 W' → Calls Try.prog 18 #[.agg #[.slice dA ls.length dc, .slice dB ws.length dC], .int .i64 ii] W' (TextB gs W')) := fun W' h => by
          have := refGet_any (HA.out.1.2.1.below h) (HA.out.1.2.2.below h) (by omega) ii hil
          rw [HGR.out] at this
          exact this
        clear HGE HGS
        go_wp2_with fail
        refine (HRG.out _ (Below.refl _ _)).mono ?_
        rintro e x' ⟨rfl, hx⟩
        replace HA := Lib.hid (HA.out.below hx)
        clear d0 d1 d2 d3 d4 hx HRG HGR
        obtain ⟨⟨⟨d0, d1, d2, d3, d4⟩, _, _⟩, _⟩ := HA.out
        dsimp only at d0 d1 d2 d3 d4
        have e8 : ¬ hasB ls.length (ii : Int) = false := by rw [hhi]; simp
        by_cases h64 : d.size = 64
        case neg =>
          obtain rfl : AE = 1 := by rw [← HAE.out]; unfold putE; rw [if_neg e8, if_pos h64]
          obtain rfl : AL = [] := by rw [← HALL.out]; rfl
          obtain rfl : AM = [] := by rw [← HAMM.out]; rfl
          clear HAE HALL HAMM e8
          obtain ⟨_, _, ⟨⟨a0, a1, a2, a3, a4⟩, haS, haW⟩, _, _, ⟨⟨z0, z1, z2, z3, z4⟩, _, _⟩, _⟩ := HA.out
          dsimp only at a0 a1 a2 a3 a4 haS haW z0 z1 z2 z3 z4
          have HL := Lib.hid (Like_yes haS haW (.inl ⟨rfl, rfl⟩) (.inl ⟨rfl, rfl⟩) (by simp) (by simp))
          clear haS haW
          go_wp2_with fail
          refine HL.out.mono ?_
          rintro e x' ⟨rfl, hx⟩
          have HBF := Lib.hid (HA.out.below hx).2.2.2.2.2.2
          clear a0 a1 a2 a3 a4 z0 z1 z2 z3 z4 hx HL
          go_wp2_with fail
          go_ret
          exact ⟨rfl, HBF.out⟩
        by_cases hw64 : ws.length = 64
        case pos =>
          obtain rfl : AE = 7 := by rw [← HAE.out]; unfold putE; rw [if_neg e8, if_neg (by omega), if_pos hw64]
          obtain rfl : AL = [] := by rw [← HALL.out]; rfl
          obtain rfl : AM = [] := by rw [← HAMM.out]; rfl
          clear HAE HALL HAMM e8
          obtain ⟨_, _, ⟨⟨a0, a1, a2, a3, a4⟩, haS, haW⟩, _, _, ⟨⟨z0, z1, z2, z3, z4⟩, _, _⟩, _⟩ := HA.out
          dsimp only at a0 a1 a2 a3 a4 haS haW z0 z1 z2 z3 z4
          have HL := Lib.hid (Like_yes haS haW (.inl ⟨rfl, rfl⟩) (.inl ⟨rfl, rfl⟩) (by simp) (by simp))
          clear haS haW
          go_wp2_with fail
          refine HL.out.mono ?_
          rintro e x' ⟨rfl, hx⟩
          have HBF := Lib.hid (HA.out.below hx).2.2.2.2.2.2
          clear a0 a1 a2 a3 a4 z0 z1 z2 z3 z4 hx HL
          go_wp2_with fail
          go_ret
          exact ⟨rfl, HBF.out⟩
        obtain rfl : AE = 0 := by rw [← HAE.out]; unfold putE; rw [if_neg e8, if_neg (by omega), if_neg hw64]
        obtain rfl : ls = AL := by rw [← HALL.out]; rfl
        obtain rfl : AM = ws ++ [((ii : Int), d)] := by rw [← HAMM.out]; rfl
        clear HAE HALL HAMM e8
        rw [show (ws ++ [((ii : Int), d)]).length = ws.length + 1 by simp] at HA ⊢
        have HW1 := Lib.hid hws
        have HX1 := Lib.hid (below_trans (al x' (.cells #[.slice dA ls.length dc, .slice dB ws.length dC] 25)) (al _ (.cells #[] 43)))
        have HO1 : Hid (((x'.alloc (.cells #[.slice dA ls.length dc, .slice dB ws.length dC] 25)).alloc (.cells #[] 43)).ownsRow (x'.heap.size + 1) 43 2 (.slice (some ⟨x'.heap.size + 1, 0, none⟩) 0 0) 0 []) := by
          have := World.ownsRow_made (base := x'.heap.size + 1) (e := 43) (size := 2) (x'.alloc (.cells #[.slice dA ls.length dc, .slice dB ws.length dC] 25)) #[] 0 (by simp) (Nat.zero_le _) rfl
          simp only [World.size_alloc] at this
          exact this
        have HR1 : Hid (WRow ((x'.alloc (.cells #[.slice dA ls.length dc, .slice dB ws.length dC] 25)).alloc (.cells #[] 43)) (.slice dB ws.length dC) ws) := (HA.out.below HX1.out).1.2.2
        obtain ⟨i1, hi1, hy0, hy1, hy2⟩ := info_parts Try.infoW
        have HM1 : Hid (ws.length + 1 ≤ maxLen) := by unfold Hid maxLen; omega
        have HM2 : Hid ((ws.length + 1) * 24 ≤ 140737488355328) := by unfold Hid; omega
        go_wp2_with (first
          | (at_builtin; refine wpList_append_writes rfl _ _ rfl (x'.heap.size + 1) _ rfl HO1.out _ ws rfl HR1.out (by have := HW1.out; omega) (by simp) ?_; intro v1 w1 hv1 hgr1; have HM := Lib.hid (mid_made rfl hgr1 hv1); have hws1 := HM.out.2.2.size; obtain ⟨a1, c1, rfl⟩ := hv1.row.slice; clear hv1 hgr1)
          | (at_builtin; refine wpList_append_lies _ rfl _ _ 23 rfl (x'.heap.size + 1) 43 i1 (.agg #[.int .i64 0, .string ⟨#[]⟩]) 2 24 Try.underlying23 hi1 hy0 hy1 hy2 rfl (by omega) (.slice a1 ws.length c1) ws.length (wcells ws) rfl (HM.out.below (al w1 _)).2.1 ⟨w1.heap.size, 0, none⟩ 1 1 [.int .i64 ii, .string d] rfl rfl (news2 (Box2.made w1 (.int .i64 ii) (.string d) 43)) (by simp [Value.oneCell']) (by omega) HM1.out HM2.out ?hb (w1.heap.size + 1) (by simp) ?_; (case hb => have := HM.out.1.1; simp; omega); intro gg capA w2 hown1 hgrow hat hltA; have HE := Lib.hid ((HM.out.below (al w1 _)).last hgrow hown1); obtain ⟨q0, q1, q2, q3, q4⟩ := HE.out.1; obtain ⟨r0, r1, r2, r3, r4⟩ := HE.out.2.1; obtain ⟨p0, p1, p2, p3, p4⟩ := (HA.out.below HE.out.2.2.2).2.2.1.1; dsimp only at p0 p1 p2 p3 p4; clear hown1 hgrow hat)
          | fail)
        refine (Like_yes (HA.out.below HE.out.2.2.2).2.2.1.2.1 (HA.out.below HE.out.2.2.2).2.2.1.2.2 (HA.out.below HE.out.2.2.2).1.2.1 HE.out.2.2.1 (by omega) (by simp; omega)).mono ?_
        rintro e x3' ⟨rfl, hx⟩
        have HBF := Lib.hid (below_trans (HA.out.below HE.out.2.2.2).2.2.2.2.2.2 hx)
        clear hx HE HM q0 q1 q2 q3 q4 r0 r1 r2 r3 r4 p0 p1 p2 p3 p4
        go_wp2_with fail
        go_ret
        exact ⟨rfl, HBF.out⟩

set_option maxRecDepth 100000 in
theorem lifted (os : Os) (started : os.Started) (H : Type) (enc : TypeId × Value → H) :
    ReturnsInHanded {} Try.checked os 3 .any (Rows.diskWorksSpec.pre6 enc Try.prog Try.f3 Rows.diskWorksRow.domain false) (Rows.diskWorksSpec.post enc Try.prog Try.f3 false true false false) := by
  refine returnsInHanded_of_change (C := Try.checked) own started (by kernel_rfl) Try.func3
    (ChangeSpec.witness6 (enc := enc) (C := Try.checked) false ⟨#[], #[.agg #[.slice none 0 0, .slice none 0 0], .int .i64 0, .int .i64 0, .string ByteArray.empty, .int .u64 0, .int .i64 0], []⟩ 8 (by kernel_rfl) (by kernel_rfl) (by kernel_rfl) (by kernel_rfl)) ?_
  intro W base args ds gs before hval0 hW hcnd _
  have hval : ∀ (j : Nat) t v, Try.f3.params[j]? = some t → args[j]? = some v → Value.okWide Try.prog W .any base t v := hval0
  have hW' := hW
  obtain ⟨p, q, hA0, hV, rfl, hfz, hnd⟩ := hW
  have hA : DataW.TrodAll enc Try.prog W 0 (fun _ => true) true Try.f3.params.toList args.toList ds p := hA0
  rw [Try.params3] at hA hval
  obtain ⟨v0, vs0, d0, ds0, p0, q0, hargs, rfl, rfl, h0, r0⟩ := trodAll_cons hA
  obtain ⟨v1, vs1, d1, ds1, p1, q1, rfl, rfl, rfl, h1, r1⟩ := trodAll_cons r0
  obtain ⟨v2, vs2, d2, ds2, p2, q2, rfl, rfl, rfl, h2, r2⟩ := trodAll_cons r1
  obtain ⟨v3, vs3, d3, ds3, p3, q3, rfl, rfl, rfl, h3, r3⟩ := trodAll_cons r2
  obtain ⟨v4, vs4, d4, ds4, p4, q4, rfl, rfl, rfl, h4, r4⟩ := trodAll_cons r3
  obtain ⟨v5, vs5, d5, ds5, p5, q5, rfl, rfl, rfl, h5, r5⟩ := trodAll_cons r4
  obtain ⟨rfl, rfl, rfl⟩ := trodAll_nil r5
  obtain rfl : args = #[v0, v1, v2, v3, v4, v5] := by cases args; simp_all
  obtain ⟨rfl, rfl⟩ := trodVars_none hV
  have k0 := h0
  have lt0 : ∀ x ∈ p0, x.block < W.heap.size := by obtain ⟨m, hm⟩ := k0; exact DataW.trod_lt m _ _ _ hm
  obtain ⟨fuel, hf⟩ := h0
  obtain ⟨vS, vW, rfl, w0, w0'⟩ := open_disk (hval 0 25 v0 rfl rfl) hf
  obtain ⟨a1, rfl, rfl, rfl, w1⟩ := open_int Try.underlying3 (hval 1 3 v1 rfl rfl) h1
  obtain ⟨a2, rfl, rfl, rfl, w2⟩ := open_int Try.underlying3 (hval 2 3 v2 rfl rfl) h2
  obtain ⟨a3, rfl, rfl, rfl, w3⟩ := open_string Try.underlying9 (hval 3 9 v3 rfl rfl) h3
  obtain ⟨a4, rfl, rfl, rfl, w4⟩ := open_int Try.underlying26 (hval 4 26 v4 rfl rfl) h4
  obtain ⟨a5, rfl, rfl, rfl, w5⟩ := open_int Try.underlying3 (hval 5 3 v5 rfl rfl) h5
  have hb4 : 0 ≤ a4 ∧ a4 < 18446744073709551616 := by
    have := w4
    simp [Lit.wf, IntKind.min, IntKind.max, IntKind.bits, IntKind.signed] at this
    omega
  obtain ⟨n4, rfl⟩ : ∃ n : Nat, a4 = n := ⟨a4.toNat, by omega⟩
  clear hA0 hval0 hf
  refine (walk0 vS vW a1 a2 a3 w3 n4 (by omega) a5 W w0 w0').mono fun e W' ⟨he, bel⟩ => ?_
  subst he
  exact ⟨_, rfl, _, _, _, [], _, [], hW', trodAll_mk1 (shut_bool Try.underlying4 _), (trodAll_cons_mk (Below.trod laidOut (by kernel_rfl) (of_decide_eq_true (by kernel_rfl)) k0 bel lt0) (trodAll_cons_mk (shut_int Try.underlying3 w1) (trodAll_cons_mk (shut_int Try.underlying3 w2) (trodAll_cons_mk (shut_string Try.underlying9 w3) (trodAll_cons_mk (shut_int Try.underlying26 w4) (trodAll_cons_mk (shut_int Try.underlying3 w5) trodAll_mk0)))))), rfl, bel.frame _, fun h => by cases h⟩

theorem over : Rows.diskWorksRow.holds Try.pinned (OpenSpec.ofChange Rows.diskWorksSpec) :=
  OpenClaim.holds_of_wide 3 Try.f3 rfl rfl rfl rfl rfl rfl rfl ⟨rfl, rfl, rfl, rfl, rfl⟩ rfl rfl rfl rfl rfl (by kernel_rfl) Try.func3 (by kernel_rfl)
    (of_decide_eq_true (by kernel_rfl)) (by unfold Func.isWrapper; first | (rw [if_pos (by decide +kernel)]; kernel_rfl) | (rw [if_neg (by decide +kernel)]; exact ⟨rfl, rfl⟩))
    (fun os started H enc _ => lifted os started H enc)

theorem proved : Rows.DiskWorksSaid := over
#print axioms proved
end Go.Proofs.Ythoeidgekogfiaa.diskWorks
