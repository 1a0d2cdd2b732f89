/-
  Joined: JRef7, JRef6, JRef5, JRef8.
-/
import Derived.Test.YtlpkalfbcphkmaaGreatMu
import Derived.Test.YtlpkalfbcphkmaaGreatMd
import Derived.Test.YtlpkalfbcphkmaaGreatMj
import Derived.IntWalk
import Derived.Deep.RegionHeld3

/-
  Contracts of the reference of journal: zeros, put.
-/
namespace Go.Proofs.YtlpkalfbcphkmaaGreat.Disk.Jn
open Go.ChangeShapes Go.WideShapes Go.ChangeAt Go.RowKit Go.Lib

/-- Writes, which may be none, are appended to a row of the call's own. -/
theorem wp_append_writes {w : World} {o : Oper} {a : Act} {K : Act → World → Prop} {Q : Exit → Act → World → Prop} (s x : Operand)
    (ho : o.op = .call { callee := .builtin .append, args := #[s, x], argTypes := #[23, 23] })
    (base : Nat) (v : Value) (l0 : List (Int × ByteArray)) (hs : a.eval s = v) (hown : OwnW base v l0 w) (u : Value) (l : List (Int × ByteArray)) (hx : a.eval x = u) (hrow : WRow w u l) (h0 : l0.length ≤ 100000) (hl : l.length ≤ 100000) (hbase : base ≤ w.heap.size)
    (h : ∀ v' w', OwnW base v' (l0 ++ l) w' → Below base w w' → K (a.put o.dst v') w') : o.wp Tryz.prog a w K Q := by
  obtain ⟨i0, hi, hz0, hz1, hz2⟩ := info_parts Tryz.infoW
  have H := hrow
  rcases hrow with ⟨rfl, rfl⟩ | ⟨g, cap, rfl, hc, hg, hcell⟩
  · have hrun := run_append_owned_none (P := Tryz.prog) (w := w) base 23 o.type 59 i0 2 Tryz.underlying23 hi v l0.length (wcells l0) hown
    unfold Oper.wp
    simp only [execOp, ho, resolve, invoke, builtin, Sem.run_bind, Sem.run_pure, Result.andThen_ok, List.map_toArray, List.map_cons, List.map_nil, hs, hx, hrun]
    exact h v w (by rw [List.append_nil]; exact hown) ⟨rfl, rfl, rfl, Nat.le_refl _, fun _ _ => rfl⟩
  · refine wp_append_own w s x 23 ho base 59 i0 (.agg #[.int .i64 0, .string ⟨#[]⟩]) 2 24 Tryz.underlying23 hi hz0 hz1 hz2 rfl (by decide) v l0.length (wcells l0) hs hown ⟨g, 0, none⟩ l.length cap (wcells l) hx (by rw [wcells_len]) H.news (wcells_one l) (by unfold maxLen; omega) (by omega) hbase ?_
    intro v' w1 hown' hgrow _
    refine h v' w1 ?_ ?_
    · unfold OwnW
      rw [wcells_append, List.length_append]
      exact hown'
    · exact (show Below base w w from ⟨rfl, rfl, rfl, Nat.le_refl _, fun _ _ => rfl⟩).grown hgrow hbase (fun j hj => (hown.lt j hj).1)
theorem wpList_append_writes {w : World} {ops : Array Oper} {rest : List Oper} {o : Oper} {a : Act} {Q : Exit → Act → World → Prop} (hgd : o.guard = none) (s x : Operand)
    (ho : o.op = .call { callee := .builtin .append, args := #[s, x], argTypes := #[23, 23] })
    (base : Nat) (v : Value) (l0 : List (Int × ByteArray)) (hs : a.eval s = v) (hown : OwnW base v l0 w) (u : Value) (l : List (Int × ByteArray)) (hx : a.eval x = u) (hrow : WRow w u l) (h0 : l0.length ≤ 100000) (hl : l.length ≤ 100000) (hbase : base ≤ w.heap.size)
    (h : ∀ v' w', OwnW base v' (l0 ++ l) w' → Below base w w' → wpList Tryz.prog ops Q rest (a.put o.dst v') w') : wpList Tryz.prog ops Q (o :: rest) a w :=
  wpList_plain hgd fun _ hK => wp_append_writes s x ho base v l0 hs hown u l hx hrow h0 hl hbase fun v' w' h1 h2 => hK _ _ (h v' w' h1 h2)
theorem WRow.one {w : World} {b : Nat} {i : Int} {d : ByteArray} (h : Box2 b (.int .i64 i) (.string d) w) : WRow w (.slice (some ⟨b, 0, none⟩) 1 1) [(i, d)] :=
  .inr ⟨b, 1, rfl, by simp, h.1, fun j hj => by
    obtain rfl : j = 0 := by simpa using hj
    exact ⟨h.2.1, h.2.2.1⟩⟩

theorem zeros_is : (⟨(List.replicate 64 (0 : UInt8)).toArray⟩ : ByteArray) = zeros := by decide +kernel
theorem zcells_is : (madeCells (Value.int .u8 0).cells (64 * 1)).toList = bcells (List.replicate 64 (0 : UInt8)) := by kernel_rfl
set_option maxHeartbeats 1000000 in
set_option maxRecDepth 100000 in
theorem refZeros_any (w : World) : Calls Tryz.prog 59 #[.int .i64 64] w (TextB zeros w) := by
  obtain ⟨i1, hi1, hy0, hy1, hy2⟩ := info_parts Tryz.info5
  go_enter Tryz.func59, Tryz.ntmps59
  go_wp2_with (at_make; refine wpList_make_full _ rfl _ _ 41 rfl w.heap.size 5 i1 (.int .u8 0) 1 Tryz.underlying41 hi1 hy0 hy1 _ _ 64 64 64 rfl rfl rfl rfl (by omega) (by unfold maxLen; omega) (Nat.le_refl _) ?_; intro W1 hown hgr)
  have hb := (Below.refl w.heap.size w).grown hgr (Nat.le_refl _) (fun k h => by cases h)
  rw [zcells_is] at hown
  have hs := own_string (dst := 9) Tryz.underlying41 Tryz.underlying5 Tryz.underlying9 (l := List.replicate 64 (0 : UInt8)) hown (by simp)
  rw [zeros_is] at hs
  have HB := Lib.hid hb
  clear hown hgr hb
  rw [hs]
  go_wp2_with fail
  go_ret
  exact ⟨rfl, HB.out⟩

/-- Blocks below a place stay. -/
theorem Box.under {b B : Nat} {vs : List Value} {w w' : World} (h : Box b vs w) (hb : Below B w w') (hB : b < B) : Box b vs w' :=
  ⟨Nat.lt_of_lt_of_le h.1 hb.size, fun j v hj => ⟨(hb.cell (p := ⟨b, j, none⟩) hB).trans (h.2 j v hj).1, (hb.frozen (p := ⟨b, j, none⟩) hB).trans (h.2 j v hj).2⟩⟩
/-- A disk with a write more: its sectors lie as they did. -/
def PutD (vS : Value) (ws : List (Int × ByteArray)) (w : World) (e : Ending) (w' : World) : Prop := ∃ vW, e = .returned (.agg #[vS, vW]) ∧ WRow w' vW ws ∧ From w.heap.size vW ∧ Below w.heap.size w w'
theorem put_ends {w W : World} {v0 v1 r0 r1 vS vW : Value} {ws : List (Int × ByteArray)} (_ : Box w.heap.size [v0, v1] W) (h1 : Box (w.heap.size + 1) [r0, r1] W) (hb : Below w.heap.size w W) (hr : WRow W vW ws) (hf : From (w.heap.size + 1 + 1) vW) :
    Box (w.heap.size + 1) [vS, vW] (((W.setCell ⟨w.heap.size, 1, none⟩ vW).setCell ⟨w.heap.size + 1, 0, none⟩ vS).setCell ⟨w.heap.size + 1, 1, none⟩ vW) ∧
    PutD vS ws w (.returned (.agg #[vS, vW])) (((W.setCell ⟨w.heap.size, 1, none⟩ vW).setCell ⟨w.heap.size + 1, 0, none⟩ vS).setCell ⟨w.heap.size + 1, 1, none⟩ vW) :=
  ⟨(h1.other (by omega) _).st2 _ _, _, rfl, ((hr.stored (hf.mono (by omega))).stored hf).stored hf, hf.mono (by omega), below_st2 (below_st hb (Nat.le_refl _) _ _) (by omega) _ _⟩
set_option maxHeartbeats 1000000 in
set_option maxRecDepth 100000 in
theorem refPut_any {a : Option Addr} {n cap : Nat} {vW : Value} {ws : List (Int × ByteArray)} {w : World} (hW : WRow w vW ws) (hw : ws.length ≤ 1000) (i : Int) (d : ByteArray) : Calls Tryz.prog 58 #[.agg #[.slice a n cap, vW], .int .i64 i, .string d] w (PutD (.slice a n cap) (ws ++ [(i, d)]) w) := by
  obtain ⟨aW, capW, rfl⟩ := hW.slice
  obtain ⟨hx, hy⟩ := Box.made2 w [.slice a n cap, .slice aW ws.length capW] [.slice none 0 0, .slice none 0 0] 25 25
  have HA := Lib.hid (below_trans (al w (.cells #[.slice a n cap, .slice aW ws.length capW] 25)) (al (w.alloc (.cells #[.slice a n cap, .slice aW ws.length capW] 25)) (.cells #[.slice none 0 0, .slice none 0 0] 25)))
  have HX := Lib.hid hx
  have HY := Lib.hid hy
  have HZ : Hid (((w.alloc (.cells #[.slice a n cap, .slice aW ws.length capW] 25)).alloc (.cells #[.slice none 0 0, .slice none 0 0] 25)).heap.size = w.heap.size + 1 + 1) := Lib.hid (by simp)
  have HW := Lib.hid hW
  clear hW hx hy
  go_enter Tryz.func58, Tryz.ntmps58
  go_upto_region 2 with fail
  generalize (w.alloc (.cells #[.slice a n cap, .slice aW ws.length capW] 25)).alloc (.cells #[.slice none 0 0, .slice none 0 0] 25) = W0 at *
  have HE : Hid (OwnW (w.heap.size + 1 + 1) (.slice (some ⟨w.heap.size + 1 + 1, 0, none⟩) 0 0) [] (W0.alloc (.cells #[] 59))) := Lib.hid (by
    have := World.ownsRow_made (e := 59) (size := 2) W0 #[] 0 (Nat.le_refl W0.heap.size) (Nat.zero_le _) rfl
    rwa [HZ.out] at this)
  have HB1 := Lib.hid (al W0 (.cells #[] 59))
  have HX1 := Lib.hid (HX.out.below HB1.out)
  have HWN := Lib.hid ((HW.out.below HA.out).below HB1.out)
  obtain ⟨c0, c1⟩ := HX1.out.c2
  have HY1 := Lib.hid (HY.out.below HB1.out)
  have HWB := Lib.hid (below_trans HA.out HB1.out)
  go_wp2_with (first
    | (at_builtin; refine wpList_append_writes rfl _ _ rfl (w.heap.size + 1 + 1) _ [] rfl HE.out _ ws rfl HWN.out (by simp) (by omega) (by simp [HZ.out]) ?_; intro v1 w1 ho1 hb1; rw [List.nil_append] at ho1; obtain ⟨a1, p1, rfl⟩ := ho1.row.slice; have HS1 := Lib.hid (show w.heap.size + 1 + 1 ≤ w1.heap.size from by have := hb1.size; rw [World.size_alloc, HZ.out] at this; omega); have HO1 := Lib.hid (World.ownsRow.alloc ho1 (.cells #[.int .i64 i, .string d] 59)); have HN1 := Lib.hid (WRow.one (Box2.made w1 (.int .i64 i) (.string d) 59)); have HU1 := Lib.hid hb1; clear ho1 hb1)
    | (at_builtin; refine wpList_append_writes rfl _ _ rfl (w.heap.size + 1 + 1) _ ws rfl HO1.out _ [(i, d)] rfl HN1.out (by omega) (by simp) (by have := HS1.out; simp; omega) ?_; intro v2 w2 ho2 hb2; have HX2 := Lib.hid (((HX1.out.under HU1.out (by omega)).below (al w1 (.cells #[.int .i64 i, .string d] 59))).under hb2 (by omega)); have HY2 := Lib.hid (((HY1.out.under HU1.out (by omega)).below (al w1 (.cells #[.int .i64 i, .string d] 59))).under hb2 (by omega)); have HR2 := Lib.hid (And.intro ho2.row (from_ownW ho2)); have HB2 := Lib.hid (HWB.out.trans ((HU1.out.mono (by omega)).trans (((al w1 (.cells #[.int .i64 i, .string d] 59)).mono (by have := HS1.out; omega)).trans (hb2.mono (by omega))))); clear ho2 hb2 c0 c1; obtain ⟨a2, p2, rfl⟩ := HR2.out.1.slice; obtain ⟨c0, c1⟩ := HX2.out.c2; obtain ⟨f0, f1⟩ := HX2.out.f2; obtain ⟨r0, r1⟩ := HY2.out.c2; obtain ⟨t0, t1⟩ := HY2.out.f2))
  have HEND := Lib.hid (put_ends (vS := .slice a n cap) HX2.out HY2.out HB2.out HR2.out.1 HR2.out.2)
  rw [show (ws ++ [(i, d)]).length = ws.length + 1 by simp] at HEND
  obtain ⟨q0, q1⟩ := HEND.out.1.c2
  exact bodyPost_ret (v := .agg #[.slice a n cap, .slice a2 (ws.length + 1) p2]) (by simp [results, Tryz.results58, go_sem, q0, q1]) rfl HEND.out.2
end Go.Proofs.YtlpkalfbcphkmaaGreat.Disk.Jn

/-
  Plain mathematics of laying bytes sector by sector, as the reference does; no program in it.
-/
namespace Go.Proofs.YtlpkalfbcphkmaaGreat.Disk.Jn
open Go.ChangeShapes Go.WideShapes Go.ChangeAt Go.RowKit Go.Lib
open Go.Proofs.YtlpkalfbcphkmaaGreat.Frame (mk_list mk_size size_list)

/-- How many sectors are laid once so many were looked at. -/
def laid (fr len i : Nat) : Nat := min (layK fr len) (i - fr / 64)
theorem laid_all {n half fr len : Nat} (h : Fits n half fr len) : laid fr len (hsN n) = layK fr len := by
  have := h.room
  unfold laid
  by_cases h0 : layK fr len = 0
  · omega
  · have := h.in (k := layK fr len - 1) (by omega)
    omega
theorem touched {fr len i : Nat} : (∃ m, m < 64 ∧ fr ≤ 64 * i + m ∧ 64 * i + m < fr + len) ↔ fr / 64 ≤ i ∧ i < fr / 64 + layK fr len := by
  unfold layK
  constructor
  · rintro ⟨m, h1, h2, h3⟩
    rw [if_neg (by omega)]
    omega
  · rintro ⟨h1, h2⟩
    by_cases h0 : len = 0
    · rw [if_pos h0] at h2; omega
    rw [if_neg h0] at h2
    by_cases h3 : 64 * i < fr
    · exact ⟨fr - 64 * i, by omega, by omega, by omega⟩
    · exact ⟨0, by omega, by omega, by omega⟩
theorem laid_some {fr len i : Nat} (h : fr / 64 ≤ i ∧ i < fr / 64 + layK fr len) : laid fr len (i + 1) = laid fr len i + 1 ∧ fr / 64 + laid fr len i = i := by
  unfold laid; omega
theorem laid_none {fr len i : Nat} (h : ¬ (fr / 64 ≤ i ∧ i < fr / 64 + layK fr len)) : laid fr len (i + 1) = laid fr len i := by
  unfold laid; omega
theorem laid_le (fr len i : Nat) : laid fr len i ≤ layK fr len := Nat.min_le_left _ _

/-- A sector with its first k bytes laid. -/
def secK (s : List UInt8) (fr : Nat) (bs : List UInt8) (i k : Nat) : List UInt8 := (List.range 64).map fun m => if m < k ∧ fr ≤ 64 * i + m ∧ 64 * i + m < fr + bs.length then bs.getD (64 * i + m - fr) 0 else s.getD m 0
theorem secK_len (s : List UInt8) (fr : Nat) (bs : List UInt8) (i k : Nat) : (secK s fr bs i k).length = 64 := by simp [secK]
theorem secK_at (s : List UInt8) (fr : Nat) (bs : List UInt8) (i k : Nat) {m : Nat} (hm : m < 64) : (secK s fr bs i k)[m]? = some (if m < k ∧ fr ≤ 64 * i + m ∧ 64 * i + m < fr + bs.length then bs.getD (64 * i + m - fr) 0 else s.getD m 0) := by
  unfold secK
  rw [List.getElem?_map, List.getElem?_range hm, Option.map_some]
theorem secK_zero {s : List UInt8} (hs : s.length = 64) (fr : Nat) (bs : List UInt8) (i : Nat) : secK s fr bs i 0 = s := by
  apply List.ext_getElem?
  intro m
  by_cases hm : m < 64
  · rw [secK_at _ _ _ _ _ hm, if_neg (by omega), List.getD, List.getElem?_eq_getElem (by omega)]; rfl
  · rw [List.getElem?_eq_none (by rw [secK_len]; omega), List.getElem?_eq_none (by omega)]
theorem secK_all (s : ByteArray) (fr : Nat) (bs : List UInt8) (i : Nat) : secD s fr bs i = ⟨(secK s.data.toList fr bs i 64).toArray⟩ := by
  unfold secD secK
  congr 2
  apply List.map_congr_left
  intro m hm
  have hm := List.mem_range.1 hm
  by_cases h : fr ≤ 64 * i + m ∧ 64 * i + m < fr + bs.length
  · rw [if_pos h, if_pos ⟨hm, h⟩]
  · rw [if_neg h, if_neg (fun c => h c.2)]
theorem secK_set {s : List UInt8} {fr : Nat} {bs : List UInt8} {i k : Nat} (hk : k < 64) (h : fr ≤ 64 * i + k ∧ 64 * i + k < fr + bs.length) : (secK s fr bs i k).set k (bs.getD (64 * i + k - fr) 0) = secK s fr bs i (k + 1) := by
  apply List.ext_getElem?
  intro m
  by_cases hm : m < 64
  · rw [List.getElem?_set, secK_len, secK_at _ _ _ _ _ hm, secK_at _ _ _ _ _ hm]
    by_cases e : k = m
    · subst e; rw [if_pos rfl, if_pos hk, if_pos ⟨by omega, h⟩]
    · rw [if_neg e]
      by_cases c : m < k ∧ fr ≤ 64 * i + m ∧ 64 * i + m < fr + bs.length
      · rw [if_pos c, if_pos ⟨by omega, c.2⟩]
      · rw [if_neg c, if_neg (fun d => c ⟨by omega, d.2⟩)]
  · rw [List.getElem?_eq_none (by rw [List.length_set, secK_len]; omega), List.getElem?_eq_none (by rw [secK_len]; omega)]
theorem secK_same {s : List UInt8} {fr : Nat} {bs : List UInt8} {i k : Nat} (h : ¬ (fr ≤ 64 * i + k ∧ 64 * i + k < fr + bs.length)) : secK s fr bs i (k + 1) = secK s fr bs i k := by
  unfold secK
  apply List.map_congr_left
  intro m _
  by_cases c : m < k ∧ fr ≤ 64 * i + m ∧ 64 * i + m < fr + bs.length
  · rw [if_pos c, if_pos ⟨by omega, c.2⟩]
  · rw [if_neg c, if_neg (fun d => c ⟨by by_cases e : m = k; (subst e; exact absurd d.2 h); omega, d.2⟩)]
end Go.Proofs.YtlpkalfbcphkmaaGreat.Disk.Jn

/-
  Contract of the reference of journal: Waits.
-/
namespace Go.Proofs.YtlpkalfbcphkmaaGreat.Disk.Jn
open Go.ChangeShapes Go.WideShapes Go.ChangeAt Go.RowKit Go.Lib
open Go.Proofs.YtlpkalfbcphkmaaGreat.Frame (frms)

theorem dr (W : World) : Below W.heap.size W W.drew := (Below.refl _ _).drew
set_option maxHeartbeats 8000000 in
set_option maxRecDepth 100000 in
theorem refWaits_any {vS vW vG vR vg : Value} {ls g : List ByteArray} {w : World} (hS : SRow w vS ls) (hg : SRow w vg g) (h8 : 8 ≤ ls.length) (hn : ls.length ≤ 1000) (hgl : g.length ≤ 100) (s h : Int) (u : Nat) (hu : u ≤ 100000) :
    Calls Tryz.prog 19 #[.agg #[vS, vW, .int .i64 s, .int .i64 h, .int .i64 u, vG, vR], vg] w (IntB (waitE ls.length u g) w) := by
  obtain ⟨aS, cap, rfl⟩ := hS.slice
  obtain ⟨ag, cg, rfl⟩ := hg.slice
  have HX := Lib.hid (Box.made w [.slice aS ls.length cap, vW, .int .i64 s, .int .i64 h, .int .i64 u, vG, vR] 27)
  have HA := Lib.hid (al w (.cells #[.slice aS ls.length cap, vW, .int .i64 s, .int .i64 h, .int .i64 u, vG, vR] 27))
  have HG := Lib.hid (fun W (hb : Below w.heap.size w W) => hg.below hb)
  have HR := Lib.hid (refRoom_any ls.length h8 hn)
  clear hS hg
  go_enter Tryz.func19, Tryz.ntmps19
  go_wp2
  generalize w.alloc (.cells #[.slice aS ls.length cap, vW, .int .i64 s, .int .i64 h, .int .i64 u, vG, vR] 27) = W1 at *
  go_loopw [10] (fun x wr => ∃ i : Nat, x = .int .i64 i ∧ i ≤ g.length ∧ (∀ d ∈ g.take i, d.size ≤ 1000) ∧ Below W1.heap.size W1 wr) (fun x _ => g.length - (Go.RowKit.intOf x).toNat)
  case atStart => exact ⟨0, rfl, Nat.zero_le _, by simp, Below.refl _ _⟩
  case round =>
    obtain ⟨i, rfl, hig, hall, hbe⟩ := hrel
    have HAL := Lib.hid hall
    have HB := Lib.hid hbe
    have HBW := Lib.hid (below_trans HA.out hbe)
    clear hall hbe
    by_cases hlt : i < g.length
    · have hat := (HG.out _ HBW.out).at hlt
      obtain ⟨bk, rfl, hlc, hbk, hc⟩ := hat
      have i0 : (0 : Int) ≤ (i : Int) := by omega
      have i1 : (i : Int) < (g.length : Int) := by omega
      have HT : Hid (g.take (i + 1) = g.take i ++ [g[i]]) := Lib.hid (List.take_succ_eq_append_getElem hlt)
      have HIN : Hid (g[i] ∈ g) := Lib.hid (List.getElem_mem hlt)
      generalize g[i] = d at *
      by_cases hd : d.size ≤ 1000
      · have hd' : ¬ (1000 : Int) < (d.size : Int) := by omega
        go_wp2
        go_roundw
        case rel => exact ⟨i + 1, by go_num, by omega, fun z hz => (by rw [HT.out, List.mem_append, List.mem_singleton] at hz; rcases hz with hz | rfl; exact HAL.out z hz; exact hd), HB.out⟩
        case measure => simp [Go.RowKit.intOf]; omega
      · have hd' : (1000 : Int) < (d.size : Int) := by omega
        have HE : Hid (waitE ls.length u g = 3) := Lib.hid (by
          unfold waitE
          rw [if_pos]
          rw [List.all_eq_false]
          exact ⟨d, HIN.out, by simpa using hd⟩)
        go_wp2
        go_ret
        exact ⟨by rw [HE.out]; rfl, HBW.out⟩
    · obtain rfl : i = g.length := by omega
      have HALL : Hid (∀ d ∈ g, d.size ≤ 1000) := Lib.hid (by have := HAL.out; rwa [List.take_length] at this)
      clear HAL
      have hfl : (frms g).length ≤ 1000000 := by
        have := frms_le (l := g) (fun d hd => by have := HALL.out d hd; omega)
        omega
      obtain ⟨F, hF⟩ : ∃ F : ByteArray, (⟨(frms g).toArray⟩ : ByteArray) = F := ⟨_, rfl⟩
      obtain ⟨f, hf⟩ : ∃ f, (frms g).length = f := ⟨_, rfl⟩
      have hFs : F.size = f := by rw [← hF, ← hf]; simp [ByteArray.size]
      have HW := Lib.hid (fun W (hb : Below w.heap.size w W) => (show Calls Tryz.prog 21 #[.slice ag g.length cg] W (fun e w' => e = .returned (.string F) ∧ Below W.heap.size W w') from by
        rw [← hF]
        exact Go.Proofs.YtlpkalfbcphkmaaGreat.Frame.Whole_any (HG.out W hb) (fun d hd => by have := HALL.out d hd; omega) hfl (by omega)))
      have HWE : Hid (waitE ls.length u g = if 16 < g.length then 7 else if 3000 < f then 7 else if roomN ls.length < u + f then 7 else 0) := Lib.hid (by
        unfold waitE
        rw [if_neg, hf]
        intro hc
        rw [List.all_eq_false] at hc
        obtain ⟨d, hd, hc⟩ := hc
        exact hc (by simpa using HALL.out d hd))
      have hr1 : roomN ls.length ≤ 100000 := by unfold roomN hsN; omega
      generalize hrm : roomN ls.length = rm at *
      rw [hf] at hfl
      clear hF hf HALL
      go_upto_region 8 with (go_at_call 21; (with_reducible refine (HW.out _ HBW.out).mono ?_); rintro e w5 ⟨rfl, hz⟩; have HB5 := Lib.hid (below_trans HB.out hz); have HBW5 := Lib.hid (below_trans HBW.out hz); clear hz)
      have HSF : Hid (∀ w', Below w5.heap.size w5 w' → w'.cell? ⟨w.heap.size, 0, none⟩ = some (.slice aS ls.length cap) ∧ w'.cell? ⟨w.heap.size, 4, none⟩ = some (.int .i64 u)) := Lib.hid (fun w' hb => by
        obtain ⟨c0, c1, c2, c3, c4, c5, c6⟩ := (HX.out.below (below_trans HB5.out hb)).c7
        exact ⟨c0, c4⟩)
      obtain ⟨c0, c4⟩ := HSF.out _ (Below.refl _ _)
      by_cases k1 : 16 < g.length
      · have k1' : decide ((16 : Int) < (g.length : Int)) = true := decide_eq_true (by omega)
        rw [if_pos k1] at HWE
        go_region
        go_wp2_with fail
        go_ret
        exact ⟨by rw [HWE.out]; rfl, below_trans HBW5.out (dr _)⟩
      have k1' : decide ((16 : Int) < (g.length : Int)) = false := decide_eq_false (by omega)
      rw [if_neg k1] at HWE
      by_cases k2 : 3000 < f
      · have k2' : decide ((3000 : Int) < (f : Int)) = true := decide_eq_true (by omega)
        rw [if_pos k2] at HWE
        go_region
        go_wp2_with fail
        go_ret
        exact ⟨by rw [HWE.out]; rfl, below_trans HBW5.out (dr _)⟩
      have k2' : decide ((3000 : Int) < (f : Int)) = false := decide_eq_false (by omega)
      rw [if_neg k2] at HWE
      have hw1 : IntKind.i64.wrap ((u : Int) + (f : Int)) = ((u + f : Nat) : Int) := (IntWalk.i64_in _ (by omega)).trans (by omega)
      go_region_held3 (fun w' => w'.cell? ⟨w.heap.size, 0, none⟩ = some (.slice aS ls.length cap) ∧ w'.cell? ⟨w.heap.size, 4, none⟩ = some (.int .i64 u)) (first | with_reducible exact HSF.out _ (dr w5) | with_reducible exact HSF.out _ HZ.out | fail)
        (first
          | (go_at_call 23; (with_reducible refine (HR.out _).mono ?_); rintro e w6 ⟨rfl, rfl⟩; have HZ := Lib.hid (dr w5))
          | fail)
      by_cases k3 : rm < u + f
      · have k3' : (rm : Int) < (u : Int) + (f : Int) := by omega
        rw [if_pos k3] at HWE
        go_wp2_with fail
        go_ret
        exact ⟨by rw [HWE.out]; rfl, below_trans HBW5.out (dr _)⟩
      · have k3' : ¬ (rm : Int) < (u : Int) + (f : Int) := by omega
        rw [if_neg k3] at HWE
        go_wp2_with fail
        go_ret
        exact ⟨by rw [HWE.out]; rfl, below_trans HBW5.out (dr _)⟩
end Go.Proofs.YtlpkalfbcphkmaaGreat.Disk.Jn

/-
  Contract of the reference of journal: First.
-/
namespace Go.Proofs.YtlpkalfbcphkmaaGreat.Disk.Jn
open Go.ChangeShapes Go.WideShapes Go.ChangeAt Go.RowKit Go.Lib

theorem WRow.off {w : World} {v : Value} {ws : List (Int × ByteArray)} (h : WRow w v ws) {b : Nat} (hb : w.heap.size ≤ b) : Off b v := fun g o n cap e => by
  rcases h with ⟨rfl, _⟩ | ⟨g', cap', rfl, _, hg, _⟩
  · cases e
  · cases e; omega
theorem WRow.storedOff {w : World} {b i : Nat} {v u : Value} {ws : List (Int × ByteArray)} (h : WRow w v ws) (hf : Off b v) : WRow (w.setCell ⟨b, i, none⟩ u) v ws := by
  rcases h with h | ⟨g, cap, rfl, hc, hg, hcell⟩
  · exact .inl h
  · have hn := hf g 0 _ _ rfl
    exact .inr ⟨g, cap, rfl, hc, by simpa using hg, fun j hj => by
      rw [World.cell?_setCell_other _ _ _ _ (by intro e; injection e; omega), World.cell?_setCell_other _ _ _ _ (by intro e; injection e; omega)]; exact hcell j hj⟩
/-- First's blocks: the journal, the disk. -/
structure FSt (w : World) (vj : List Value) (vS vW : Value) (ws : List (Int × ByteArray)) (W : World) : Prop where
  j : Box w.heap.size vj W
  q : Box (w.heap.size + 1) [.slice none 0 0, .slice none 0 0] W
  d : Box (w.heap.size + 1 + 1) [vS, vW] W
  r : WRow W vW ws
  o : Off (w.heap.size + 1 + 1) vW
  b : Below w.heap.size w W
theorem FSt.below {w : World} {vj : List Value} {vS vW : Value} {ws : List (Int × ByteArray)} {W W' : World} (h : FSt w vj vS vW ws W) (hb : Below W.heap.size W W') : FSt w vj vS vW ws W' :=
  ⟨h.j.below hb, h.q.below hb, h.d.below hb, h.r.below hb, h.o, below_trans h.b hb⟩
theorem FSt.put {w : World} {vj : List Value} {vS vW vW2 : Value} {ws ws2 : List (Int × ByteArray)} {W W' : World} (h : FSt w vj vS vW ws W) (hb : Below W.heap.size W W') (hr : WRow W' vW2 ws2) (hf : From W.heap.size vW2) :
    FSt w vj vS vW2 ws2 ((W'.setCell ⟨w.heap.size + 1 + 1, 0, none⟩ vS).setCell ⟨w.heap.size + 1 + 1, 1, none⟩ vW2) := by
  have h' := h.below hb
  have hlt := h.d.1
  have ho : Off (w.heap.size + 1 + 1) vW2 := hf.off hlt
  exact ⟨(h'.j.other (by omega) _).other (by omega) _, (h'.q.other (by omega) _).other (by omega) _, h'.d.st2 _ _, WRow.storedOff (WRow.storedOff hr ho) ho, ho, below_st2 h'.b (by omega) _ _⟩
theorem FSt.made (w : World) (vj : List Value) {vS vW : Value} {ws : List (Int × ByteArray)} (hW : WRow w vW ws) : FSt w vj vS vW ws (((w.alloc (.cells vj.toArray 27)).alloc (.cells #[.slice none 0 0, .slice none 0 0] 25)).alloc (.cells #[vS, vW] 25)) := by
  obtain ⟨h1, h2⟩ := Box.made2 w vj [.slice none 0 0, .slice none 0 0] 27 25
  have h3 := Box.made ((w.alloc (.cells vj.toArray 27)).alloc (.cells #[.slice none 0 0, .slice none 0 0] 25)) [vS, vW] 25
  rw [show ((w.alloc (.cells vj.toArray 27)).alloc (.cells #[.slice none 0 0, .slice none 0 0] 25)).heap.size = w.heap.size + 1 + 1 by simp] at h3
  have hb1 := al ((w.alloc (.cells vj.toArray 27)).alloc (.cells #[.slice none 0 0, .slice none 0 0] 25)) (.cells #[vS, vW] 25)
  have hb := below_trans (below_trans (al w (.cells vj.toArray 27)) (al (w.alloc (.cells vj.toArray 27)) (.cells #[.slice none 0 0, .slice none 0 0] 25))) hb1
  exact ⟨h1.below hb1, h2.below hb1, h3, hW.below hb, WRow.off hW (by omega), hb⟩
/-- First's end: the last write's disk is returned. -/
theorem FSt.ends {w : World} {vj : List Value} {vS vW vW2 : Value} {ws ws2 : List (Int × ByteArray)} {W W' : World} (h : FSt w vj vS vW ws W) (hb : Below W.heap.size W W') (hr : WRow W' vW2 ws2) (hf : From W.heap.size vW2) :
    Box (w.heap.size + 1) [vS, vW2] ((W'.setCell ⟨w.heap.size + 1, 0, none⟩ vS).setCell ⟨w.heap.size + 1, 1, none⟩ vW2) ∧
    PutD vS ws2 w (.returned (.agg #[vS, vW2])) ((W'.setCell ⟨w.heap.size + 1, 0, none⟩ vS).setCell ⟨w.heap.size + 1, 1, none⟩ vW2) := by
  have h' := h.below hb
  have hlt := h.d.1
  have ho : Off (w.heap.size + 1) vW2 := hf.off (by omega)
  exact ⟨h'.q.st2 _ _, _, rfl, WRow.storedOff (WRow.storedOff hr ho) ho, hf.mono (by omega), below_st2 h'.b (by omega) _ _⟩

/-- Whether one of the first k bytes of a sector is laid. -/
def touchB (fr len i k : Nat) : Bool := (List.range k).any fun m => decide (fr ≤ 64 * i + m ∧ 64 * i + m < fr + len)
theorem touchB_yes {fr len i k : Nat} (h : fr ≤ 64 * i + k ∧ 64 * i + k < fr + len) : touchB fr len i (k + 1) = true := by
  rw [touchB, List.range_succ, List.any_append]
  simp [h]
theorem touchB_no {fr len i k : Nat} (h : ¬ (fr ≤ 64 * i + k ∧ 64 * i + k < fr + len)) : touchB fr len i (k + 1) = touchB fr len i k := by
  rw [touchB, List.range_succ, List.any_append, List.any_cons, decide_eq_false h]
  simp [touchB]
theorem touchB_all (fr len i : Nat) : touchB fr len i 64 = decide (fr / 64 ≤ i ∧ i < fr / 64 + layK fr len) := by
  rw [Bool.eq_iff_iff, decide_eq_true_eq, ← touched (fr := fr) (len := len) (i := i)]
  simp [touchB]
/-- What holds at the head of First's inner loop. -/
def InI (W0 : World) (s : List UInt8) (fr : Nat) (S : ByteArray) (i : Nat) (so x : Value) (wr : World) : Prop :=
  ∃ k : Nat, k ≤ 64 ∧ x = .int .i64 k ∧ so = .bool (touchB fr S.size i k) ∧ Crc.BRow W0.heap.size (secK s fr S.data.toList i k) wr ∧ Below W0.heap.size W0 wr

set_option maxHeartbeats 4000000 in
set_option maxRecDepth 100000 in
theorem refFirst_any {vS vW vG vR : Value} {ls : List ByteArray} {w : World} (hS : SRow w vS ls) (hW : WRow w vW []) (h64 : Secs64 ls) (hn : ls.length ≤ 1000) {half fr : Nat} {S : ByteArray} (hf : Fits ls.length half fr S.size) (hl : S.size ≤ 3900) {s : Nat} (hs : s ≤ 1099511627776) (h u : Int) :
    Calls Tryz.prog 25 #[.agg #[vS, vW, .int .i64 s, .int .i64 h, .int .i64 u, vG, vR], .int .i64 half, .int .i64 fr, .string S] w (PutD vS (firstW ls ((s + 1) % 2) half fr S.data.toList) w) := by
  have h8 := hf.n8
  have hle := hs_le h8 hf.h1
  have hroom := hf.room
  have hhalf := hf.h1
  have hall := laid_all hf
  have hbl := bytes_size S
  obtain ⟨q, hq⟩ : ∃ q, hsN ls.length = q := ⟨_, rfl⟩
  obtain ⟨b0, hb0⟩ : ∃ b, begN ls.length half = b := ⟨_, rfl⟩
  have hb1 : b0 = 2 + half * q := by rw [← hb0, ← hq]; rfl
  have hrm : roomN ls.length = 64 * q := by rw [← hq]; rfl
  have hbq : b0 + q ≤ ls.length := by rw [← hb0, ← hq]; exact hle
  have hq1 : ((ls.length : Int) - 2) / 2 = (q : Int) := by have : hsN ls.length = (ls.length - 2) / 2 := rfl; omega
  rw [hq] at hall
  rw [hrm] at hroom
  obtain ⟨aS, cap, rfl⟩ := hS.slice
  obtain ⟨aW, capW, rfl⟩ : ∃ a c, vW = .slice a 0 c := hW.slice
  have HS := Lib.hid (fun W (hb : Below w.heap.size w W) => hS.below hb)
  have HF0 := Lib.hid (FSt.made w [.slice aS ls.length cap, .slice aW 0 capW, .int .i64 s, .int .i64 h, .int .i64 u, vG, vR] (vS := .slice aS ls.length cap) hW)
  have H6 := Lib.hid (fun (i : Nat) (hi : i < ls.length) => h64 ls[i] (List.getElem_mem hi))
  have HL := Lib.hid (fun k => layW_succ ls half fr S.data.toList k)
  have HLD := Lib.hid (fun i => laid_le fr S.size i)
  have hk62 : layK fr S.size ≤ 62 := by unfold layK; split <;> omega
  have HALL := Lib.hid hall
  clear hS hW h64 hle hf hq hall
  rcases (by omega : half = 0 ∨ half = 1) with rfl | rfl
  · go_enter Tryz.func25, Tryz.ntmps25
    go_wp2_with fail
    generalize ((w.alloc _).alloc _).alloc _ = W0 at HF0 ⊢
    rw [hq1, show ((0 : Nat) : Int) = 0 from rfl]
    clear hq1
    go_loopw [11] (fun x wr => ∃ (i : Nat) (a2 : Option Addr) (p2 : Nat), x = .int .i64 i ∧ i ≤ q ∧ FSt w [.slice aS ls.length cap, .slice aW 0 capW, .int .i64 s, .int .i64 h, .int .i64 u, vG, vR] (.slice aS ls.length cap) (.slice a2 (laid fr S.size i) p2) (layW ls 0 fr S.data.toList (laid fr S.size i)) wr) (fun x _ => q - (Go.RowKit.intOf x).toNat)
    case atStart => exact ⟨0, aW, capW, rfl, Nat.zero_le _, by simpa [laid, layW] using HF0.out⟩
    case round =>
      obtain ⟨i, a2, p2, rfl, hiq, hF⟩ := hrel
      obtain ⟨W1, rfl⟩ : ∃ W1, W1 = wr := ⟨_, rfl⟩
      have HF := Lib.hid hF
      clear hF
      obtain ⟨j0, j1, j2, j3, j4, j5, j6⟩ := HF.out.j.c7
      obtain ⟨d0, d1⟩ := HF.out.d.c2
      by_cases hlt : i < q
      · have hil : b0 + i < ls.length := by omega
        have hat := (HS.out _ HF.out.b).at hil
        obtain ⟨bk, e, hlc, hbk, hc⟩ := hat
        cases e
        have hs6 := H6.out _ hil
        obtain ⟨sc, hsc⟩ : ∃ sc, ls[b0 + i] = sc := ⟨_, rfl⟩
        have HSC := Lib.hid hsc
        rw [hsc] at hc hs6
        have e1 : (2 : Int) + (i : Int) = ((b0 + i : Nat) : Int) := by omega
        obtain ⟨a, ha⟩ : ∃ a, b0 + i = a := ⟨_, rfl⟩
        have HAA := Lib.hid ha
        rw [ha] at e1 hil hc
        have HNX : Hid (fr / 64 ≤ i ∧ i < fr / 64 + layK fr S.size → layW ls 0 fr S.data.toList (laid fr S.size i) ++ [((a : Int), secD sc fr S.data.toList i)] = layW ls 0 fr S.data.toList (laid fr S.size (i + 1))) := Lib.hid (fun ht => by
          obtain ⟨l1, l2⟩ := laid_some ht
          rw [l1, layW_succ, hb0, show b0 + fr / 64 + laid fr S.size i = a by omega, l2, List.getD, List.getElem?_eq_getElem hil]
          subst ha
          rw [hsc]; rfl)
        have HNN : Hid (¬ (fr / 64 ≤ i ∧ i < fr / 64 + layK fr S.size) → laid fr S.size (i + 1) = laid fr S.size i) := Lib.hid laid_none
        clear hsc ha HAA HSC
        have HLL := Lib.hid (secK_len sc.data.toList fr S.data.toList i)
        obtain ⟨capb, w0, hcapb, hmk, hrow, hbel⟩ := Crc.BRow.made sc W1
        rw [hs6] at hmk
        have HROW := Lib.hid hrow
        have HBEL := Lib.hid hbel
        clear hrow hbel
        go_wp2_with fail
        clear hmk j0 j1 j2 j3 j4 j5 j6 d0 d1 hc
        go_loopw [14, 15] (fun so x wv => InI W1 sc.data.toList fr S i so x wv) (fun _ x _ => 64 - (Go.RowKit.intOf x).toNat)
        case atStart => exact ⟨0, Nat.zero_le _, rfl, rfl, by rw [secK_zero (by rw [bytes_size]; exact hs6)]; exact HROW.out, HBEL.out⟩
        case round =>
          obtain ⟨k, hk, rfl, rfl, hrow, hbe⟩ := hrel
          have HRW := Lib.hid hrow
          have HBE := Lib.hid hbe
          clear hrow hbe
          by_cases hkl : k < 64
          · have hk' : k < (secK sc.data.toList fr S.data.toList i k).length := by rw [HLL.out]; exact hkl
            by_cases hin : fr ≤ 64 * i + k ∧ 64 * i + k < fr + S.size
            · obtain ⟨p, hp⟩ : ∃ p, 64 * i + k - fr = p := ⟨_, rfl⟩
              have e2 : 64 * (i : Int) + (k : Int) - (fr : Int) = (p : Int) := by omega
              have hps : p < S.size := by omega
              have p0 : (0 : Int) ≤ (p : Int) := by omega
              have p1 : (p : Int) < (S.size : Int) := by omega
              obtain ⟨b, hb⟩ : ∃ b, S[p] = b := ⟨_, rfl⟩
              have hcell := HRW.out.cell hk'
              have hfree := HRW.out.free hk'
              have HST := Lib.hid (HRW.out.set hk' b (x := b.toNat) rfl)
              have HSB := Lib.hid (fun v => HBE.out.setCell (p := ⟨W1.heap.size, k, none⟩) (Nat.le_refl _) v)
              have hgd : S.data.toList.getD (64 * i + k - fr) 0 = b := by
                rw [hp, List.getD, List.getElem?_eq_getElem (by rw [bytes_size]; exact hps), Option.getD_some, Array.getElem_toList]
                exact hb
              have hsk := secK_set (s := sc.data.toList) (fr := fr) (bs := S.data.toList) hkl (by rw [bytes_size]; exact hin)
              rw [hgd] at hsk
              have HSK := Lib.hid hsk
              have HTY := Lib.hid (touchB_yes (len := S.size) hin)
              clear hsk hgd hp
              go_wp2
              go_roundw
              case rel => exact ⟨k + 1, by omega, by go_num, by rw [HTY.out], by rw [← HSK.out]; exact HST.out, HSB.out _⟩
              case measure => simp [Go.RowKit.intOf]; omega
            · have HSK := Lib.hid (secK_same (s := sc.data.toList) (fr := fr) (bs := S.data.toList) (i := i) (k := k) (by rw [bytes_size]; exact hin))
              have HTN := Lib.hid (touchB_no (len := S.size) (fr := fr) (i := i) (k := k) hin)
              by_cases hlo : 64 * i + k < fr
              · have p0 : ¬ (0 : Int) ≤ 64 * (i : Int) + (k : Int) - (fr : Int) := by omega
                have p1 : 64 * (i : Int) + (k : Int) - (fr : Int) < 0 := by omega
                go_wp2
                go_roundw
                case rel => exact ⟨k + 1, by omega, by go_num, by rw [HTN.out], by rw [HSK.out]; exact HRW.out, HBE.out⟩
                case measure => simp [Go.RowKit.intOf]; omega
              · obtain ⟨p, hp⟩ : ∃ p, 64 * i + k - fr = p := ⟨_, rfl⟩
                have e2 : 64 * (i : Int) + (k : Int) - (fr : Int) = (p : Int) := by omega
                have p0 : (0 : Int) ≤ (p : Int) := by omega
                have p1 : ¬ (p : Int) < (S.size : Int) := by omega
                clear hp
                go_wp2
                go_roundw
                case rel => exact ⟨k + 1, by omega, by go_num, by rw [HTN.out], by rw [HSK.out]; exact HRW.out, HBE.out⟩
                case measure => simp [Go.RowKit.intOf]; omega
          · obtain rfl : k = 64 := by omega
            rw [touchB_all]
            have HF2 := Lib.hid (HF.out.below HBE.out)
            by_cases ht : fr / 64 ≤ i ∧ i < fr / 64 + layK fr S.size
            · rw [decide_eq_true ht]
              have hconv := HRW.out.back (cap := capb) (HLL.out 64)
              rw [← secK_all] at hconv
              have HNX1 := Lib.hid (HNX.out ht)
              have HPT := Lib.hid (refPut_any (a := some ⟨bk, 0, none⟩) (n := ls.length) (cap := cap) HF2.out.r (by rw [layW_len]; have := HLD.out i; omega) (a : Int) (secD sc fr S.data.toList i))
              obtain ⟨d0, d1⟩ := HF2.out.d.c2
              go_wp2_with (first
                | (go_at_call 58; (with_reducible refine HPT.out.mono ?_); rintro e W2 ⟨vW2, rfl, hr2, hf2, hb2⟩; have HF3 := Lib.hid (HF2.out.put hb2 hr2 hf2); have HF4 := Lib.hid (HF2.out.below hb2); obtain ⟨a3, p3, rfl⟩ := hr2.slice; clear hr2 hf2 hb2 d0 d1; obtain ⟨d0, d1⟩ := HF4.out.d.c2; obtain ⟨g0, g1⟩ := HF4.out.d.f2)
                | fail)
              have hln : (layW ls 0 fr S.data.toList (laid fr S.size i)).length + 1 = laid fr S.size (i + 1) := by rw [layW_len, (laid_some ht).1]
              go_roundw
              case rel => exact ⟨i + 1, a3, p3, by go_num, by omega, by rw [hln]; have := HF3.out; rw [HNX1.out, layW_len] at this; exact this⟩
              case measure => simp [Go.RowKit.intOf]; omega
            · rw [decide_eq_false ht]
              have HNN1 := Lib.hid (HNN.out ht)
              go_wp2_with fail
              go_roundw
              case rel => exact ⟨i + 1, a2, p2, by go_num, by omega, by rw [HNN1.out]; exact HF2.out⟩
              case measure => simp [Go.RowKit.intOf]; omega
      · obtain rfl : i = q := by omega
        have HZR := Lib.hid (fun W => refZeros_any W)
        rw [HALL.out] at HF
        have HQ : Hid (((s + 1) % 2 : Nat) = ((s : Int) + 1) % 2) := Lib.hid (by omega)
        generalize hqq : ((s + 1) % 2 : Nat) = Q at HQ ⊢
        have HQ1 : Hid ((IntKind.i64.wrap ((s : Int) + 1)).tmod 2 = (Q : Int)) := Lib.hid (by
          have := HQ.out
          rw [IntWalk.i64_in _ (by omega), Int.tmod_eq_emod_of_nonneg (by omega)]
          omega)
        clear HQ
        have HPT := Lib.hid (fun W (hb : Below W1.heap.size W1 W) => refPut_any (a := aS) (n := ls.length) (cap := cap) (HF.out.r.below hb) (by rw [layW_len]; omega) ((IntKind.i64.wrap ((s : Int) + 1)).tmod 2) zeros)
        go_upto_region 18 with fail
        have HSF : Hid (∀ w', Below W1.heap.size W1 w' → w'.cell? ⟨w.heap.size, 2, none⟩ = some (.int .i64 s) ∧ w'.cell? ⟨w.heap.size + 1 + 1, 0, none⟩ = some (.slice aS ls.length cap) ∧ w'.cell? ⟨w.heap.size + 1 + 1, 1, none⟩ = some (.slice a2 (layK fr S.size) p2)) := Lib.hid (fun w' hb => by
          obtain ⟨k0, k1, k2, k3, k4, k5, k6⟩ := (HF.out.below hb).j.c7
          exact ⟨k2, (HF.out.below hb).d.c2⟩)
        have HSK : Hid (∀ w', Below W1.heap.size W1 w' → ∀ u0 u1 : Value, ((w'.setCell ⟨w.heap.size + 1, 0, none⟩ u0).setCell ⟨w.heap.size + 1, 1, none⟩ u1).cell? ⟨w.heap.size, 2, none⟩ = some (.int .i64 s) ∧ ((w'.setCell ⟨w.heap.size + 1, 0, none⟩ u0).setCell ⟨w.heap.size + 1, 1, none⟩ u1).cell? ⟨w.heap.size + 1 + 1, 0, none⟩ = some (.slice aS ls.length cap) ∧ ((w'.setCell ⟨w.heap.size + 1, 0, none⟩ u0).setCell ⟨w.heap.size + 1, 1, none⟩ u1).cell? ⟨w.heap.size + 1 + 1, 1, none⟩ = some (.slice a2 (layK fr S.size) p2)) := Lib.hid (fun w' hb u0 u1 => by
          obtain ⟨k0, k1, k2, k3, k4, k5, k6⟩ := ((((HF.out.below hb).j).other (g := w.heap.size + 1) (i := 0) (by omega) u0).other (g := w.heap.size + 1) (i := 1) (by omega) u1).c7
          exact ⟨k2, ((((HF.out.below hb).d).other (g := w.heap.size + 1) (i := 0) (by omega) u0).other (g := w.heap.size + 1) (i := 1) (by omega) u1).c2⟩)
        clear j0 j1 j2 j3 j4 j5 j6 d0 d1
        have HS0 := Lib.hid (HSF.out _ (Below.refl _ _))
        obtain ⟨j2, d0, d1⟩ := HS0.out
        go_region_held3 (fun w' => w'.cell? ⟨w.heap.size, 2, none⟩ = some (.int .i64 s) ∧ w'.cell? ⟨w.heap.size + 1 + 1, 0, none⟩ = some (.slice aS ls.length cap) ∧ w'.cell? ⟨w.heap.size + 1 + 1, 1, none⟩ = some (.slice a2 (layK fr S.size) p2))
          (first | with_reducible exact HSF.out _ (dr W1) | with_reducible exact HSF.out _ HZ2.out | with_reducible exact HSF.out _ HW3.out | with_reducible exact HSK.out _ HW3.out _ _ | fail)
          (first
            | (go_at_call 59; (with_reducible refine (HZR.out _).mono ?_); rintro e W2 ⟨rfl, hz⟩; have HZ2 := Lib.hid (below_trans (dr W1) hz); clear hz)
            | (go_at_call 58; (with_reducible refine (HPT.out _ HZ2.out).mono ?_); rintro e W3 ⟨vW2, rfl, hr2, hf2, hb2⟩; have HW3 := Lib.hid (below_trans HZ2.out hb2); rw [HQ1.out] at hr2; have HF3 := Lib.hid ((HF.out.below HZ2.out).ends hb2 hr2 hf2); have HF4 := Lib.hid ((HF.out.below HZ2.out).below hb2); obtain ⟨a3, p3, rfl⟩ := hr2.slice; clear hr2 hf2 hb2; obtain ⟨r0, r1⟩ := HF4.out.q.c2; obtain ⟨g0, g1⟩ := HF4.out.q.f2)
            | fail)
        have HFW : Hid (firstW ls ((s + 1) % 2) 0 fr S.data.toList = layW ls 0 fr S.data.toList (layK fr S.size) ++ [((Q : Int), zeros)]) := Lib.hid (by unfold firstW; rw [hbl, hqq])
        rw [show (layW ls 0 fr S.data.toList (layK fr S.size) ++ [((Q : Int), zeros)]).length = (layW ls 0 fr S.data.toList (layK fr S.size)).length + 1 by simp] at HF3
        generalize (layW ls 0 fr S.data.toList (layK fr S.size)).length + 1 = n3 at HF3 ⊢
        go_wp2_with fail
        obtain ⟨z0, z1⟩ := HF3.out.1.c2
        exact bodyPost_ret (v := .agg #[.slice aS ls.length cap, .slice a3 n3 p3]) (by simp [results, Tryz.results25, go_sem, z0, z1]) rfl (by rw [HFW.out]; exact HF3.out.2)
  · go_enter Tryz.func25, Tryz.ntmps25
    go_wp2_with fail
    generalize ((w.alloc _).alloc _).alloc _ = W0 at HF0 ⊢
    rw [hq1, show ((1 : Nat) : Int) = 1 from rfl]
    clear hq1
    go_loopw [11] (fun x wr => ∃ (i : Nat) (a2 : Option Addr) (p2 : Nat), x = .int .i64 i ∧ i ≤ q ∧ FSt w [.slice aS ls.length cap, .slice aW 0 capW, .int .i64 s, .int .i64 h, .int .i64 u, vG, vR] (.slice aS ls.length cap) (.slice a2 (laid fr S.size i) p2) (layW ls 1 fr S.data.toList (laid fr S.size i)) wr) (fun x _ => q - (Go.RowKit.intOf x).toNat)
    case atStart => exact ⟨0, aW, capW, rfl, Nat.zero_le _, by simpa [laid, layW] using HF0.out⟩
    case round =>
      obtain ⟨i, a2, p2, rfl, hiq, hF⟩ := hrel
      obtain ⟨W1, rfl⟩ : ∃ W1, W1 = wr := ⟨_, rfl⟩
      have HF := Lib.hid hF
      clear hF
      obtain ⟨j0, j1, j2, j3, j4, j5, j6⟩ := HF.out.j.c7
      obtain ⟨d0, d1⟩ := HF.out.d.c2
      by_cases hlt : i < q
      · have hil : b0 + i < ls.length := by omega
        have hat := (HS.out _ HF.out.b).at hil
        obtain ⟨bk, e, hlc, hbk, hc⟩ := hat
        cases e
        have hs6 := H6.out _ hil
        obtain ⟨sc, hsc⟩ : ∃ sc, ls[b0 + i] = sc := ⟨_, rfl⟩
        have HSC := Lib.hid hsc
        rw [hsc] at hc hs6
        have e1 : (2 : Int) + (q : Int) + (i : Int) = ((b0 + i : Nat) : Int) := by omega
        obtain ⟨a, ha⟩ : ∃ a, b0 + i = a := ⟨_, rfl⟩
        have HAA := Lib.hid ha
        rw [ha] at e1 hil hc
        have HNX : Hid (fr / 64 ≤ i ∧ i < fr / 64 + layK fr S.size → layW ls 1 fr S.data.toList (laid fr S.size i) ++ [((a : Int), secD sc fr S.data.toList i)] = layW ls 1 fr S.data.toList (laid fr S.size (i + 1))) := Lib.hid (fun ht => by
          obtain ⟨l1, l2⟩ := laid_some ht
          rw [l1, layW_succ, hb0, show b0 + fr / 64 + laid fr S.size i = a by omega, l2, List.getD, List.getElem?_eq_getElem hil]
          subst ha
          rw [hsc]; rfl)
        have HNN : Hid (¬ (fr / 64 ≤ i ∧ i < fr / 64 + layK fr S.size) → laid fr S.size (i + 1) = laid fr S.size i) := Lib.hid laid_none
        clear hsc ha HAA HSC
        have HLL := Lib.hid (secK_len sc.data.toList fr S.data.toList i)
        obtain ⟨capb, w0, hcapb, hmk, hrow, hbel⟩ := Crc.BRow.made sc W1
        rw [hs6] at hmk
        have HROW := Lib.hid hrow
        have HBEL := Lib.hid hbel
        clear hrow hbel
        go_wp2_with fail
        clear hmk j0 j1 j2 j3 j4 j5 j6 d0 d1 hc
        go_loopw [14, 15] (fun so x wv => InI W1 sc.data.toList fr S i so x wv) (fun _ x _ => 64 - (Go.RowKit.intOf x).toNat)
        case atStart => exact ⟨0, Nat.zero_le _, rfl, rfl, by rw [secK_zero (by rw [bytes_size]; exact hs6)]; exact HROW.out, HBEL.out⟩
        case round =>
          obtain ⟨k, hk, rfl, rfl, hrow, hbe⟩ := hrel
          have HRW := Lib.hid hrow
          have HBE := Lib.hid hbe
          clear hrow hbe
          by_cases hkl : k < 64
          · have hk' : k < (secK sc.data.toList fr S.data.toList i k).length := by rw [HLL.out]; exact hkl
            by_cases hin : fr ≤ 64 * i + k ∧ 64 * i + k < fr + S.size
            · obtain ⟨p, hp⟩ : ∃ p, 64 * i + k - fr = p := ⟨_, rfl⟩
              have e2 : 64 * (i : Int) + (k : Int) - (fr : Int) = (p : Int) := by omega
              have hps : p < S.size := by omega
              have p0 : (0 : Int) ≤ (p : Int) := by omega
              have p1 : (p : Int) < (S.size : Int) := by omega
              obtain ⟨b, hb⟩ : ∃ b, S[p] = b := ⟨_, rfl⟩
              have hcell := HRW.out.cell hk'
              have hfree := HRW.out.free hk'
              have HST := Lib.hid (HRW.out.set hk' b (x := b.toNat) rfl)
              have HSB := Lib.hid (fun v => HBE.out.setCell (p := ⟨W1.heap.size, k, none⟩) (Nat.le_refl _) v)
              have hgd : S.data.toList.getD (64 * i + k - fr) 0 = b := by
                rw [hp, List.getD, List.getElem?_eq_getElem (by rw [bytes_size]; exact hps), Option.getD_some, Array.getElem_toList]
                exact hb
              have hsk := secK_set (s := sc.data.toList) (fr := fr) (bs := S.data.toList) hkl (by rw [bytes_size]; exact hin)
              rw [hgd] at hsk
              have HSK := Lib.hid hsk
              have HTY := Lib.hid (touchB_yes (len := S.size) hin)
              clear hsk hgd hp
              go_wp2
              go_roundw
              case rel => exact ⟨k + 1, by omega, by go_num, by rw [HTY.out], by rw [← HSK.out]; exact HST.out, HSB.out _⟩
              case measure => simp [Go.RowKit.intOf]; omega
            · have HSK := Lib.hid (secK_same (s := sc.data.toList) (fr := fr) (bs := S.data.toList) (i := i) (k := k) (by rw [bytes_size]; exact hin))
              have HTN := Lib.hid (touchB_no (len := S.size) (fr := fr) (i := i) (k := k) hin)
              by_cases hlo : 64 * i + k < fr
              · have p0 : ¬ (0 : Int) ≤ 64 * (i : Int) + (k : Int) - (fr : Int) := by omega
                have p1 : 64 * (i : Int) + (k : Int) - (fr : Int) < 0 := by omega
                go_wp2
                go_roundw
                case rel => exact ⟨k + 1, by omega, by go_num, by rw [HTN.out], by rw [HSK.out]; exact HRW.out, HBE.out⟩
                case measure => simp [Go.RowKit.intOf]; omega
              · obtain ⟨p, hp⟩ : ∃ p, 64 * i + k - fr = p := ⟨_, rfl⟩
                have e2 : 64 * (i : Int) + (k : Int) - (fr : Int) = (p : Int) := by omega
                have p0 : (0 : Int) ≤ (p : Int) := by omega
                have p1 : ¬ (p : Int) < (S.size : Int) := by omega
                clear hp
                go_wp2
                go_roundw
                case rel => exact ⟨k + 1, by omega, by go_num, by rw [HTN.out], by rw [HSK.out]; exact HRW.out, HBE.out⟩
                case measure => simp [Go.RowKit.intOf]; omega
          · obtain rfl : k = 64 := by omega
            rw [touchB_all]
            have HF2 := Lib.hid (HF.out.below HBE.out)
            by_cases ht : fr / 64 ≤ i ∧ i < fr / 64 + layK fr S.size
            · rw [decide_eq_true ht]
              have hconv := HRW.out.back (cap := capb) (HLL.out 64)
              rw [← secK_all] at hconv
              have HNX1 := Lib.hid (HNX.out ht)
              have HPT := Lib.hid (refPut_any (a := some ⟨bk, 0, none⟩) (n := ls.length) (cap := cap) HF2.out.r (by rw [layW_len]; have := HLD.out i; omega) (a : Int) (secD sc fr S.data.toList i))
              obtain ⟨d0, d1⟩ := HF2.out.d.c2
              go_wp2_with (first
                | (go_at_call 58; (with_reducible refine HPT.out.mono ?_); rintro e W2 ⟨vW2, rfl, hr2, hf2, hb2⟩; have HF3 := Lib.hid (HF2.out.put hb2 hr2 hf2); have HF4 := Lib.hid (HF2.out.below hb2); obtain ⟨a3, p3, rfl⟩ := hr2.slice; clear hr2 hf2 hb2 d0 d1; obtain ⟨d0, d1⟩ := HF4.out.d.c2; obtain ⟨g0, g1⟩ := HF4.out.d.f2)
                | fail)
              have hln : (layW ls 1 fr S.data.toList (laid fr S.size i)).length + 1 = laid fr S.size (i + 1) := by rw [layW_len, (laid_some ht).1]
              go_roundw
              case rel => exact ⟨i + 1, a3, p3, by go_num, by omega, by rw [hln]; have := HF3.out; rw [HNX1.out, layW_len] at this; exact this⟩
              case measure => simp [Go.RowKit.intOf]; omega
            · rw [decide_eq_false ht]
              have HNN1 := Lib.hid (HNN.out ht)
              go_wp2_with fail
              go_roundw
              case rel => exact ⟨i + 1, a2, p2, by go_num, by omega, by rw [HNN1.out]; exact HF2.out⟩
              case measure => simp [Go.RowKit.intOf]; omega
      · obtain rfl : i = q := by omega
        have HZR := Lib.hid (fun W => refZeros_any W)
        rw [HALL.out] at HF
        have HQ : Hid (((s + 1) % 2 : Nat) = ((s : Int) + 1) % 2) := Lib.hid (by omega)
        generalize hqq : ((s + 1) % 2 : Nat) = Q at HQ ⊢
        have HQ1 : Hid ((IntKind.i64.wrap ((s : Int) + 1)).tmod 2 = (Q : Int)) := Lib.hid (by
          have := HQ.out
          rw [IntWalk.i64_in _ (by omega), Int.tmod_eq_emod_of_nonneg (by omega)]
          omega)
        clear HQ
        have HPT := Lib.hid (fun W (hb : Below W1.heap.size W1 W) => refPut_any (a := aS) (n := ls.length) (cap := cap) (HF.out.r.below hb) (by rw [layW_len]; omega) ((IntKind.i64.wrap ((s : Int) + 1)).tmod 2) zeros)
        go_upto_region 18 with fail
        have HSF : Hid (∀ w', Below W1.heap.size W1 w' → w'.cell? ⟨w.heap.size, 2, none⟩ = some (.int .i64 s) ∧ w'.cell? ⟨w.heap.size + 1 + 1, 0, none⟩ = some (.slice aS ls.length cap) ∧ w'.cell? ⟨w.heap.size + 1 + 1, 1, none⟩ = some (.slice a2 (layK fr S.size) p2)) := Lib.hid (fun w' hb => by
          obtain ⟨k0, k1, k2, k3, k4, k5, k6⟩ := (HF.out.below hb).j.c7
          exact ⟨k2, (HF.out.below hb).d.c2⟩)
        have HSK : Hid (∀ w', Below W1.heap.size W1 w' → ∀ u0 u1 : Value, ((w'.setCell ⟨w.heap.size + 1, 0, none⟩ u0).setCell ⟨w.heap.size + 1, 1, none⟩ u1).cell? ⟨w.heap.size, 2, none⟩ = some (.int .i64 s) ∧ ((w'.setCell ⟨w.heap.size + 1, 0, none⟩ u0).setCell ⟨w.heap.size + 1, 1, none⟩ u1).cell? ⟨w.heap.size + 1 + 1, 0, none⟩ = some (.slice aS ls.length cap) ∧ ((w'.setCell ⟨w.heap.size + 1, 0, none⟩ u0).setCell ⟨w.heap.size + 1, 1, none⟩ u1).cell? ⟨w.heap.size + 1 + 1, 1, none⟩ = some (.slice a2 (layK fr S.size) p2)) := Lib.hid (fun w' hb u0 u1 => by
          obtain ⟨k0, k1, k2, k3, k4, k5, k6⟩ := ((((HF.out.below hb).j).other (g := w.heap.size + 1) (i := 0) (by omega) u0).other (g := w.heap.size + 1) (i := 1) (by omega) u1).c7
          exact ⟨k2, ((((HF.out.below hb).d).other (g := w.heap.size + 1) (i := 0) (by omega) u0).other (g := w.heap.size + 1) (i := 1) (by omega) u1).c2⟩)
        clear j0 j1 j2 j3 j4 j5 j6 d0 d1
        have HS0 := Lib.hid (HSF.out _ (Below.refl _ _))
        obtain ⟨j2, d0, d1⟩ := HS0.out
        go_region_held3 (fun w' => w'.cell? ⟨w.heap.size, 2, none⟩ = some (.int .i64 s) ∧ w'.cell? ⟨w.heap.size + 1 + 1, 0, none⟩ = some (.slice aS ls.length cap) ∧ w'.cell? ⟨w.heap.size + 1 + 1, 1, none⟩ = some (.slice a2 (layK fr S.size) p2))
          (first | with_reducible exact HSF.out _ (dr W1) | with_reducible exact HSF.out _ HZ2.out | with_reducible exact HSF.out _ HW3.out | with_reducible exact HSK.out _ HW3.out _ _ | fail)
          (first
            | (go_at_call 59; (with_reducible refine (HZR.out _).mono ?_); rintro e W2 ⟨rfl, hz⟩; have HZ2 := Lib.hid (below_trans (dr W1) hz); clear hz)
            | (go_at_call 58; (with_reducible refine (HPT.out _ HZ2.out).mono ?_); rintro e W3 ⟨vW2, rfl, hr2, hf2, hb2⟩; have HW3 := Lib.hid (below_trans HZ2.out hb2); rw [HQ1.out] at hr2; have HF3 := Lib.hid ((HF.out.below HZ2.out).ends hb2 hr2 hf2); have HF4 := Lib.hid ((HF.out.below HZ2.out).below hb2); obtain ⟨a3, p3, rfl⟩ := hr2.slice; clear hr2 hf2 hb2; obtain ⟨r0, r1⟩ := HF4.out.q.c2; obtain ⟨g0, g1⟩ := HF4.out.q.f2)
            | fail)
        have HFW : Hid (firstW ls ((s + 1) % 2) 1 fr S.data.toList = layW ls 1 fr S.data.toList (layK fr S.size) ++ [((Q : Int), zeros)]) := Lib.hid (by unfold firstW; rw [hbl, hqq])
        rw [show (layW ls 1 fr S.data.toList (layK fr S.size) ++ [((Q : Int), zeros)]).length = (layW ls 1 fr S.data.toList (layK fr S.size)).length + 1 by simp] at HF3
        generalize (layW ls 1 fr S.data.toList (layK fr S.size)).length + 1 = n3 at HF3 ⊢
        go_wp2_with fail
        obtain ⟨z0, z1⟩ := HF3.out.1.c2
        exact bodyPost_ret (v := .agg #[.slice aS ls.length cap, .slice a3 n3 p3]) (by simp [results, Tryz.results25, go_sem, z0, z1]) rfl (by rw [HFW.out]; exact HF3.out.2)
end Go.Proofs.YtlpkalfbcphkmaaGreat.Disk.Jn
