/-
  Proved: for any lines, order, class and text the law WaitsGo returns true: what dropping an order, moving it to another class, finding it, and asking who waits for something makes of any index, is as the reference says, or refused. No condition.
-/
import Derived.Test.YtcehhgcfkoldfaaRows
import Derived.Test.YtcehhgcfkoldfaaWArg
import Derived.Test.YtcehhgcfkoldfaaWHold
import Derived.Test.YtcehhgcfkoldfaaWAlive
import Derived.Test.YtcehhgcfkoldfaaWMove
import Derived.Test.YtcehhgcfkoldfaaWRef3
import Derived.Test.YtcehhgcfkoldfaaWRef4
namespace Go.Proofs.Ytcehhgcfkoldfaa.waitsGo
open Go.ChangeShapes Go.WideShapes Go.ChangeAt Go.RowKit Go.Lib Go.Proofs.Ytcehhgcfkoldfaa.Goods Go.Proofs.Ytcehhgcfkoldfaa.Waits
open Go.Proofs.Ytcehhgcfkoldfaa.Queue (Wt ltB wv QRow)
open Go.ChangeMaps (open_string shut_string)
set_option linter.unusedVariables false

theorem own : ownKnob Try.prog.godebug = none := by kernel_rfl
theorem laidOut : laidOutB Try.prog = true := by kernel_rfl

/-- What is told of an order that has a line, of one that has none, and of what is no index. -/
theorem go_no {l : List Ln} {o c : Int} {t : ByteArray} (h : Waits.rightB l = false) : (dropE l o = 1 ∧ dropO l o = []) ∧ (moveE l o c = 1 ∧ moveO l o c = []) ∧ (findE l o = 1 ∧ findV l o = noL) ∧ (ofE l = 1 ∧ ofO l t = []) := by
  refine ⟨?_, ?_, ?_, ?_⟩
  · rcases drop_ways l o with ⟨_, e1, e2⟩ | ⟨e1, _⟩ | ⟨x, e1, _⟩
    · exact ⟨e1, e2⟩
    · rw [h] at e1; cases e1
    · rw [h] at e1; cases e1
  · rcases move_ways l o c with ⟨_, e1, e2⟩ | ⟨e1, _⟩ | ⟨e1, _⟩ | ⟨x, e1, _⟩
    · exact ⟨e1, e2⟩
    · rw [h] at e1; cases e1
    · rw [h] at e1; cases e1
    · rw [h] at e1; cases e1
  · rcases find_ways l o with ⟨_, e1, e2⟩ | ⟨e1, _⟩ | ⟨x, e1, _⟩
    · exact ⟨e1, e2⟩
    · rw [h] at e1; cases e1
    · rw [h] at e1; cases e1
  · unfold ofE ofO; rw [h]; exact ⟨rfl, rfl⟩
theorem go_none {l : List Ln} {o c : Int} (h : Waits.rightB l = true) (hg : getO o l = none) : (dropE l o = 8 ∧ dropO l o = []) ∧ (findE l o = 8 ∧ findV l o = noL) ∧ (0 ≤ c ∧ c ≤ 3 → moveE l o c = 8 ∧ moveO l o c = []) := by
  refine ⟨?_, ?_, fun hc => ?_⟩
  · rcases drop_ways l o with ⟨e1, _⟩ | ⟨_, _, e1, e2⟩ | ⟨x, _, e1, _⟩
    · rw [h] at e1; cases e1
    · exact ⟨e1, e2⟩
    · rw [hg] at e1; cases e1
  · rcases find_ways l o with ⟨e1, _⟩ | ⟨_, _, e1, e2⟩ | ⟨x, _, e1, _⟩
    · rw [h] at e1; cases e1
    · exact ⟨e1, e2⟩
    · rw [hg] at e1; cases e1
  · rcases move_ways l o c with ⟨e1, _⟩ | ⟨_, e1, _⟩ | ⟨_, _, _, e1, e2⟩ | ⟨x, _, _, e1, _⟩
    · rw [h] at e1; cases e1
    · exact absurd hc e1
    · exact ⟨e1, e2⟩
    · rw [hg] at e1; cases e1
theorem go_some {l : List Ln} {o c : Int} {x : Ln} (h : Waits.rightB l = true) (hg : getO o l = some x) : (dropE l o = 0 ∧ dropO l o = withoutL l o) ∧ (findE l o = 0 ∧ findV l o = x) ∧ (0 ≤ c ∧ c ≤ 3 → moveE l o c = 0 ∧ moveO l o c = makeL (withoutL l o ++ [inClass x c])) := by
  refine ⟨?_, ?_, fun hc => ?_⟩
  · rcases drop_ways l o with ⟨e1, _⟩ | ⟨_, e1, _⟩ | ⟨y, _, _, e1, e2⟩
    · rw [h] at e1; cases e1
    · rw [hg] at e1; cases e1
    · exact ⟨e1, e2⟩
  · rcases find_ways l o with ⟨e1, _⟩ | ⟨_, e1, _⟩ | ⟨y, _, e1, e2, e3⟩
    · rw [h] at e1; cases e1
    · rw [hg] at e1; cases e1
    · rw [hg] at e1; cases e1; exact ⟨e2, e3⟩
  · rcases move_ways l o c with ⟨e1, _⟩ | ⟨_, e1, _⟩ | ⟨_, _, e1, _⟩ | ⟨y, _, _, e1, e2, e3⟩
    · rw [h] at e1; cases e1
    · exact absurd hc e1
    · rw [hg] at e1; cases e1
    · rw [hg] at e1; cases e1; exact ⟨e2, e3⟩

set_option maxRecDepth 100000 in
set_option maxHeartbeats 8000000 in
theorem walk0 (v : Value) (o : Int) (_o1 : -9223372036854775808 ≤ o) (_o2 : o ≤ 9223372036854775807) (c : Int) (_d1 : -9223372036854775808 ≤ c) (_d2 : c ≤ 9223372036854775807) (s : ByteArray) (hs : s.size ≤ 9223372036854775807) (w : World) (hv : ArgL w v) :
    Calls Try.prog 4 #[v, .int .i64 o, .int .i64 c, .string s] w (BoolB true w) := by
  obtain ⟨l0, hr0, hl0⟩ := hv
  have HFE := Lib.hid (few_any (w := w.drew) ⟨l0, hr0.below (dr w), hl0⟩)
  obtain ⟨a0, c0, rfl⟩ := hr0.slice
  obtain ⟨q, hq, hqt, hq18⟩ : ∃ q : Nat, (if (18 : Int) < (s.size : Int) then (18 : Int) else (s.size : Int)) = q ∧ q ≤ s.size ∧ q ≤ 18 := ⟨min s.size 18, by split <;> omega, by omega, by omega⟩
  have i0 : (0 : Int) ≤ (q : Int) := by omega
  have i1 : (q : Int) ≤ (s.size : Int) := by omega
  obtain ⟨t, ht, ht18⟩ : ∃ t, s.extract 0 q = t ∧ t.size ≤ 18 := ⟨_, rfl, by rw [ByteArray.size_extract]; omega⟩
  clear hr0 hl0 ht18 _o1 _o2 _d1 _d2
  generalize l0.length = n0 at *
  go_enter Try.func4, Try.ntmps4
  go_upto_region 1 with (fail)
  go_cut [0, 3] from 19 to 25 (fun u y wx => ∃ l a c, u = .slice a l.length c ∧ y = .string t ∧ Tiny l ∧ LRow wx (.slice a l.length c) l ∧ Below w.heap.size w wx)
  case first =>
    go_region_held3 (fun W' => True) (trivial)
      (first
        | (go_at_call 7; (with_reducible refine HFE.out.mono ?_); rintro e w1 ⟨v1, l, rfl, hti, hown, hz⟩; have HTI := Lib.hid hti; have HROW := Lib.hid hown.row; have HZ := Lib.hid (below_trans (dr w) hz); obtain ⟨a1, c1, rfl⟩ := hown.row.slice; clear hti hown hz)
        | fail)
    all_goals (
      go_wp2_with fail
      go_meet
      exact ⟨_, _, _, rfl, rfl, HTI.out, HROW.out, HZ.out⟩)
  case rest =>
  obtain ⟨l, a1, c1, rfl, rfl, hti, hrow, hbel⟩ := hcut
  clear hq i0 i1 ht hqt hq18 hs HFE
  rename World => w1
  have HB := Lib.hid hbel
  have hbr := hti.brief
  have hlen := hti.1
  have HRW := Lib.hid hrow
  have HDR := Lib.hid (Drop_any hrow hbr o)
  have HMV := Lib.hid (fun W (hb : Below w1.heap.size w1 W) => Move_any (hrow.below hb) hbr o c)
  have hfd := fun W (hb : Below w1.heap.size w1 W) => Find_any (hrow.below hb) hbr o
  have HOF := Lib.hid (fun W (hb : Below w1.heap.size w1 W) => Of_any (hrow.below hb) hbr t)
  have HRJ := Lib.hid (fun W (hb : Below w1.heap.size w1 W) => refRight_any (hrow.below hb) hbr)
  have HRO := Lib.hid (fun W (hb : Below w1.heap.size w1 W) => refOf_any (hrow.below hb) hbr.1 t)
  have HAT := Lib.hid (fun W (hb : Below w1.heap.size w1 W) => refAt_any (hrow.below hb) hbr.1 o)
  have HWO := Lib.hid (fun W (hb : Below w1.heap.size w1 W) => refWithout_any (hrow.below hb) hbr.1 o)
  have HSM := Lib.hid (fun (u u' : Value) (m : List Ln) W (h : LRow W u m) (h' : LRow W u' m) => (decide_eq_true (rfl : m = m)) ▸ Waits.Same_any h h')
  have HAL := Lib.hid alive_any
  have HNO := Lib.hid (fun (e : Waits.rightB l = false) => go_no (o := o) (c := c) (t := t) e)
  have HNN := Lib.hid (fun (e : Waits.rightB l = true) (g : getO o l = none) => go_none (c := c) e g)
  have HNS := Lib.hid (fun (e : Waits.rightB l = true) (x : Ln) (g : getO o l = some x) => go_some (c := c) e g)
  have HNC := Lib.hid (fun (e : ¬ (0 ≤ c ∧ c ≤ 3)) => move_bad (l := l) (o := o) e)
  have HOE := Lib.hid (fun (e : Waits.rightB l = true) => show ofE l = 0 ∧ ofO l t = ofL l t by unfold ofE ofO; rw [e]; exact ⟨rfl, rfl⟩)
  have HBR := Lib.hid hbr
  have hwl : (withoutL l o).length ≤ 999 := Nat.le_trans (List.length_filter_le _ _) (by omega)
  have HWL := Lib.hid hwl
  have HWS := Lib.hid (fun y (hy : y ∈ withoutL l o) => hbr.2 y ((List.mem_filter.1 hy).1))
  unfold LineE lv at hfd
  have HFD := Lib.hid hfd
  clear hti hrow hbr hbel hfd hwl
  generalize hln : l.length = ln at *
  have HLN := Lib.hid hln
  generalize hvx : findV l o = x at *
  generalize findE l o = fe at *
  generalize dropO l o = dO at *
  generalize dropE l o = dE at *
  generalize moveO l o c = mo at *
  generalize moveE l o c = me at *
  generalize ofO l t = oo at *
  generalize ofE l = oe at *
  clear hln hvx
  go_wp2_with fail
  (with_reducible refine HDR.out.mono ?_)
  rintro e w2 ⟨v2, rfl, hr2, hz⟩
  obtain ⟨a2, n2, c2, rfl⟩ : ∃ a n c, v2 = .slice a n c := (by obtain ⟨a', c', e⟩ := hr2.slice; exact ⟨a', _, c', e⟩)
  have HB2 := Lib.hid hz
  have HR2 := Lib.hid hr2
  clear hz hr2
  go_wp2_with fail
  (with_reducible refine (HMV.out _ HB2.out).mono ?_)
  rintro e w3 ⟨v3, rfl, hr3, hz⟩
  obtain ⟨a3, n3, c3, rfl⟩ : ∃ a n c, v3 = .slice a n c := (by obtain ⟨a', c', e⟩ := hr3.slice; exact ⟨a', _, c', e⟩)
  have HB3 := Lib.hid (below_trans HB2.out hz)
  have HR3 := Lib.hid hr3
  have HR23 := Lib.hid (HR2.out.below hz)
  clear hz hr3
  go_wp2_with fail
  (with_reducible refine (HFD.out _ HB3.out).mono ?_)
  rintro e w4 ⟨rfl, hz⟩
  have hba := al w4 (.cells #[.string x.k, .int .i64 x.w.c, .int .i64 x.w.s, .int .i64 x.w.o] 26)
  have hbx := Box.made w4 (lcs x) 26
  obtain ⟨W4, hW4⟩ : ∃ W, w4.alloc (.cells #[.string x.k, .int .i64 x.w.c, .int .i64 x.w.s, .int .i64 x.w.o] 26) = W := ⟨_, rfl⟩
  have HB4 : Hid (Below w1.heap.size w1 W4) := Lib.hid (below_trans (below_trans HB3.out hz) (hW4 ▸ hba))
  have HX4 : Hid (Box w4.heap.size (lcs x) W4) := Lib.hid (hW4 ▸ hbx)
  have HR24 : Hid (LRow W4 _ dO) := Lib.hid ((HR23.out.below hz).below (hW4 ▸ hba))
  have HR34 : Hid (LRow W4 _ mo) := Lib.hid ((HR3.out.below hz).below (hW4 ▸ hba))
  obtain ⟨gx, hgx⟩ : ∃ n, w4.heap.size = n := ⟨_, rfl⟩
  rw [hgx] at HX4
  clear hz hba hbx
  go_wp2_with fail
  clear hW4 hgx
  (with_reducible refine (HOF.out _ HB4.out).mono ?_)
  rintro e w5 ⟨v5, rfl, hr5, hz⟩
  obtain ⟨a5, n5, c5, rfl⟩ : ∃ a n c, v5 = .slice a n c := (by obtain ⟨a', c', e⟩ := hr5.slice; exact ⟨a', _, c', e⟩)
  have HB5 := Lib.hid (below_trans HB4.out hz)
  have HX5 := Lib.hid (HX4.out.below hz)
  have HR25 := Lib.hid (HR24.out.below hz)
  have HR35 := Lib.hid (HR34.out.below hz)
  have HR5 := Lib.hid hr5
  clear hz hr5
  go_wp2_with fail
  (with_reducible refine (HAL.out _).mono ?_)
  rintro e w6 ⟨rfl, hz⟩
  have HB6 := Lib.hid (below_trans HB5.out hz)
  have HX6 := Lib.hid (HX5.out.below hz)
  have HR26 := Lib.hid (HR25.out.below hz)
  have HR36 := Lib.hid (HR35.out.below hz)
  have HR6 := Lib.hid (HR5.out.below hz)
  clear hz HR2 HR3 HR23 HR24 HR34 HR25 HR35 HR5 HX4 HX5
  go_wp2_with fail
  cases e1 : Waits.rightB l with
  | false =>
    obtain ⟨⟨rfl, rfl⟩, ⟨rfl, rfl⟩, ⟨rfl, rfl⟩, rfl, rfl⟩ := HNO.out e1
    obtain rfl : n2 = 0 := HR26.out.cap.1
    obtain rfl : n3 = 0 := HR36.out.cap.1
    obtain rfl : n5 = 0 := by obtain ⟨_, _, e, _⟩ := HR6.out; cases e; rfl
    have HJ := Lib.hid (fun W hb => e1 ▸ HRJ.out W hb)
    have heq := fun W => eql_line noL noL W
    rw [decide_eq_true rfl] at heq
    simp only [noL] at heq
    clear e1
    (with_reducible refine (HJ.out _ HB6.out).mono ?_)
    rintro e w7 ⟨rfl, hz⟩
    obtain ⟨y0, y1, y2, y3⟩ := box4 (HX6.out.below hz)
    have hs7 := (HX6.out.below hz).1
    have HE := Lib.hid (below_trans HB.out (below_trans HB6.out hz))
    simp only [noL] at y0 y1 y2 y3
    clear hz
    go_wp2_with fail
    go_ret
    exact ⟨rfl, HE.out⟩
  | true =>
    obtain ⟨rfl, rfl⟩ := HOE.out e1
    have HJ := Lib.hid (fun W hb => e1 ▸ HRJ.out W hb)
    (with_reducible refine (HJ.out _ HB6.out).mono ?_)
    rintro e w7 ⟨rfl, hz⟩
    have HB7 := Lib.hid (below_trans HB6.out hz)
    have HX7 := Lib.hid (HX6.out.below hz)
    have HR27 := Lib.hid (HR26.out.below hz)
    have HR37 := Lib.hid (HR36.out.below hz)
    have HR7 := Lib.hid (HR6.out.below hz)
    clear hz HR26 HR36 HR6 HX6
    go_wp2_with fail
    (with_reducible refine (HRO.out _ HB7.out).mono ?_)
    rintro e u1 ⟨vu, rfl, hru, hz⟩
    have HSQ := Lib.hid (Queue.Same_yes (HR7.out.below hz) hru)
    obtain ⟨au, nu, cu, rfl⟩ : ∃ a n c, vu = .slice a n c := (by obtain ⟨a', c', e⟩ := hru.slice; exact ⟨a', _, c', e⟩)
    have HBu := Lib.hid (below_trans HB7.out hz)
    have HXu := Lib.hid (HX7.out.below hz)
    have HR2u := Lib.hid (HR27.out.below hz)
    have HR3u := Lib.hid (HR37.out.below hz)
    clear hz hru HR27 HR37 HR7 HX7
    go_wp2_with fail
    (with_reducible refine HSQ.out.mono ?_)
    rintro e u2 ⟨rfl, hz⟩
    have HBv := Lib.hid (below_trans HBu.out hz)
    have HXv := Lib.hid (HXu.out.below hz)
    have HR2v := Lib.hid (HR2u.out.below hz)
    have HR3v := Lib.hid (HR3u.out.below hz)
    clear hz HR2u HR3u HXu HSQ
    go_wp2_with fail
    (with_reducible refine (HAT.out _ HBv.out).mono ?_)
    rintro e W8 ⟨rfl, hz⟩
    have HB8 := Lib.hid (below_trans HBv.out hz)
    have HX8 := Lib.hid (HXv.out.below hz)
    have HR28 := Lib.hid (HR2v.out.below hz)
    have HR38 := Lib.hid (HR3v.out.below hz)
    clear hz HR2v HR3v HXv
    have HE8 := Lib.hid (below_trans HB.out HB8.out)
    cases hg : getO o l with
    | none =>
      obtain ⟨⟨rfl, rfl⟩, ⟨rfl, rfl⟩, hm⟩ := HNN.out e1 hg
      have hix := getO_no hg
      rw [hix]
      obtain rfl : n2 = 0 := HR28.out.cap.1
      have heq := fun W => eql_line noL noL W
      rw [decide_eq_true rfl] at heq
      simp only [noL] at heq
      obtain ⟨y0, y1, y2, y3⟩ := box4 HX8.out
      have hs8 := HX8.out.1
      simp only [noL] at y0 y1 y2 y3
      clear hix hg e1 HNS HJ
      by_cases h1 : c < 0
      · obtain ⟨rfl, rfl⟩ := HNC.out (by omega)
        obtain rfl : n3 = 0 := HR38.out.cap.1
        clear hm
        go_wp2_with fail
        go_ret
        exact ⟨rfl, HE8.out⟩
      · by_cases h2 : 3 < c
        · obtain ⟨rfl, rfl⟩ := HNC.out (by omega)
          obtain rfl : n3 = 0 := HR38.out.cap.1
          clear hm
          go_wp2_with fail
          go_ret
          exact ⟨rfl, HE8.out⟩
        · obtain ⟨rfl, rfl⟩ := hm ⟨by omega, by omega⟩
          obtain rfl : n3 = 0 := HR38.out.cap.1
          clear hm
          go_wp2_with fail
          go_ret
          exact ⟨rfl, HE8.out⟩
    | some z =>
      obtain ⟨⟨rfl, rfl⟩, ⟨rfl, rfl⟩, hm⟩ := HNS.out e1 z hg
      obtain ⟨i, hi, hix, hli, _⟩ := getO_idx (rightB_t.1 e1).1.2.2 hg
      rw [hix]
      have HXS := Lib.hid (HBR.out.2 x (getO_is hg).2)
      obtain ⟨bl, ol, rfl, _, _, hbl, hfour⟩ := (HLN.out ▸ HRW.out : LRow w1 (.slice a1 l.length c1) l).at hi
      rw [hli] at hfour
      have HF4 := Lib.hid (fun W (hb : Below w1.heap.size w1 W) => And.intro (hfour.below hbl hb) (Nat.lt_of_lt_of_le hbl hb.size))
      have HIL : Hid (i < ln) := Lib.hid (by rw [← HLN.out]; exact hi)
      have heq := fun W => eql_line x x W
      rw [decide_eq_true rfl] at heq
      have ii0 : (0 : Int) ≤ i := by omega
      have ii1 : (i : Int) < ln := by have := HIL.out; omega
      have ii2 : ¬ (i : Int) < 0 := by omega
      clear hix hg e1 HNN HJ hi hli hfour
      by_cases h1 : c < 0
      · obtain ⟨rfl, rfl⟩ := HNC.out (by omega)
        obtain rfl : n3 = 0 := HR38.out.cap.1
        clear hm HNC
        have HSX : Hid (∀ W', Below W8.heap.size W8 W' → (W'.cell? ⟨gx, 0, none⟩ = some (.string x.k) ∧ W'.cell? ⟨gx, 1, none⟩ = some (.int .i64 x.w.c) ∧ W'.cell? ⟨gx, 2, none⟩ = some (.int .i64 x.w.s) ∧ W'.cell? ⟨gx, 3, none⟩ = some (.int .i64 x.w.o)) ∧ gx < W'.heap.size) := Lib.hid (fun W' hb => ⟨box4 (HX8.out.below hb), (HX8.out.below hb).1⟩)
        have HSL : Hid (∀ W', Below W8.heap.size W8 W' → (W'.cell? ⟨bl, ol + i * 4, none⟩ = some (.string x.k) ∧ W'.cell? ⟨bl, ol + i * 4 + 1, none⟩ = some (.int .i64 x.w.c) ∧ W'.cell? ⟨bl, ol + i * 4 + 2, none⟩ = some (.int .i64 x.w.s) ∧ W'.cell? ⟨bl, ol + i * 4 + 3, none⟩ = some (.int .i64 x.w.o)) ∧ bl < W'.heap.size) := Lib.hid (fun W' hb => HF4.out _ (below_trans HB8.out hb))
        go_upto_region 25 with fail
        refine wp_region_noPanic ?_
        refine wp_region_held_drew (S := fun W' => Below W8.heap.size W8 W') (by kernel_rfl) (dr W8) (fun hHeld => ?_)
        try simp only [Act.put, List.setIfInBounds_toArray, List.set_cons_zero, List.set_cons_succ]
        refine takeH 0 158 (.int .i64 0) calm_np rfl rfl (by kernel_rfl) (by kernel_rfl) (by kernel_rfl) (by rfl) (fun W' hSw => by go_simp) hHeld ?_
        try simp only [Act.put, List.setIfInBounds_toArray, List.set_cons_zero, List.set_cons_succ]
        refine takeH 1 159 (.bool true) calm_np rfl rfl (by kernel_rfl) (by kernel_rfl) (by kernel_rfl) (by rfl) (fun W' hSw => by go_simp) hHeld ?_
        try simp only [Act.put, List.setIfInBounds_toArray, List.set_cons_zero, List.set_cons_succ]
        refine takeH 2 160 (.bool true) calm_np rfl rfl (by kernel_rfl) (by kernel_rfl) (by kernel_rfl) (by rfl) (fun W' hSw => by go_simp) hHeld ?_
        try simp only [Act.put, List.setIfInBounds_toArray, List.set_cons_zero, List.set_cons_succ]
        refine takeH 3 161 (.slice a2 n2 c2) calm_np rfl rfl (by kernel_rfl) (by kernel_rfl) (by kernel_rfl) (by rfl) (fun W' hSw => by go_simp) hHeld ?_
        try simp only [Act.put, List.setIfInBounds_toArray, List.set_cons_zero, List.set_cons_succ]
        refine takeH 4 162 (.slice (some ⟨bl, ol, none⟩) ln c1) calm_np rfl rfl (by kernel_rfl) (by kernel_rfl) (by kernel_rfl) (by rfl) (fun W' hSw => by go_simp) hHeld ?_
        try simp only [Act.put, List.setIfInBounds_toArray, List.set_cons_zero, List.set_cons_succ]
        refine takeH 5 163 (.int .i64 o) calm_np rfl rfl (by kernel_rfl) (by kernel_rfl) (by kernel_rfl) (by rfl) (fun W' hSw => by go_simp) hHeld ?_
        try simp only [Act.put, List.setIfInBounds_toArray, List.set_cons_zero, List.set_cons_succ]
        refine wpAnyH_ready (rs := [6]) (by kernel_rfl) (by simp) (AllReadyH.cons rfl (fun K hK => ?_) AllReadyH.nil)
        go_simp
        refine (HWO.out _ (below_trans HB8.out hHeld)).mono ?_
        rintro e V1 ⟨u1, rfl, hu1, hz⟩
        obtain ⟨e1, e2, e3, rfl⟩ : ∃ a n c, u1 = .slice a n c := (by obtain ⟨a', c', e⟩ := hu1.row.slice; exact ⟨a', _, c', e⟩)
        have hh := below_trans hHeld hz
        have HSS := Lib.hid (HSM.out _ _ _ _ (HR28.out.below hh) hu1.row)
        clear hz hu1
        go_simp
        refine hK.out _ _ hh (fun hHeld => ?_)
        clear hK hh
        try simp only [Act.put, List.setIfInBounds_toArray, List.set_cons_zero, List.set_cons_succ]
        refine wpAnyH_ready (rs := [7]) (by kernel_rfl) (by simp) (AllReadyH.cons rfl (fun K hK => ?_) AllReadyH.nil)
        go_simp
        refine HSS.out.mono ?_
        rintro e V2 ⟨rfl, hz⟩
        have hh := below_trans hHeld hz
        clear hz
        go_simp
        refine hK.out _ _ hh (fun hHeld => ?_)
        clear hK hh
        try simp only [Act.put, List.setIfInBounds_toArray, List.set_cons_zero, List.set_cons_succ]
        refine takeH 8 166 (.bool true) calm_np rfl rfl (by kernel_rfl) (by kernel_rfl) (by kernel_rfl) (by rfl) (fun W' hSw => by go_simp) hHeld ?_
        try simp only [Act.put, List.setIfInBounds_toArray, List.set_cons_zero, List.set_cons_succ]
        refine takeH 9 167 (.bool true) calm_np rfl rfl (by kernel_rfl) (by kernel_rfl) (by kernel_rfl) (by rfl) (fun W' hSw => by go_simp) hHeld ?_
        try simp only [Act.put, List.setIfInBounds_toArray, List.set_cons_zero, List.set_cons_succ]
        refine takeH 10 168 (.int .i64 0) calm_np rfl rfl (by kernel_rfl) (by kernel_rfl) (by kernel_rfl) (by rfl) (fun W' hSw => by go_simp) hHeld ?_
        try simp only [Act.put, List.setIfInBounds_toArray, List.set_cons_zero, List.set_cons_succ]
        refine takeH 11 169 (.bool true) calm_np rfl rfl (by kernel_rfl) (by kernel_rfl) (by kernel_rfl) (by rfl) (fun W' hSw => by go_simp) hHeld ?_
        try simp only [Act.put, List.setIfInBounds_toArray, List.set_cons_zero, List.set_cons_succ]
        refine takeH 12 170 (.bool true) calm_np rfl rfl (by kernel_rfl) (by kernel_rfl) (by kernel_rfl) (by rfl) (fun W' hSw => by go_simp) hHeld ?_
        try simp only [Act.put, List.setIfInBounds_toArray, List.set_cons_zero, List.set_cons_succ]
        refine takeH 13 171 (.bool true) calm_np rfl rfl (by kernel_rfl) (by kernel_rfl) (by kernel_rfl) (by rfl) (fun W' hSw => by go_simp) hHeld ?_
        try simp only [Act.put, List.setIfInBounds_toArray, List.set_cons_zero, List.set_cons_succ]
        refine takeH 14 172 (.agg #[.string x.k, .int .i64 x.w.c, .int .i64 x.w.s, .int .i64 x.w.o]) calm_np rfl rfl (by kernel_rfl) (by kernel_rfl) (by kernel_rfl) (by rfl) (fun W' hSw => by obtain ⟨⟨g0, g1, g2, g3⟩, hsz⟩ := HSX.out _ hSw; go_simp) hHeld ?_
        try simp only [Act.put, List.setIfInBounds_toArray, List.set_cons_zero, List.set_cons_succ]
        refine takeH 15 173 (.slice (some ⟨bl, ol, none⟩) ln c1) calm_np rfl rfl (by kernel_rfl) (by kernel_rfl) (by kernel_rfl) (by rfl) (fun W' hSw => by go_simp) hHeld ?_
        try simp only [Act.put, List.setIfInBounds_toArray, List.set_cons_zero, List.set_cons_succ]
        refine takeH 16 174 (.int .i64 i) calm_np rfl rfl (by kernel_rfl) (by kernel_rfl) (by kernel_rfl) (by rfl) (fun W' hSw => by go_simp) hHeld ?_
        try simp only [Act.put, List.setIfInBounds_toArray, List.set_cons_zero, List.set_cons_succ]
        refine takeH 17 175 (.pointer (some ⟨bl, ol + i * 4, none⟩)) calm_np rfl rfl (by kernel_rfl) (by kernel_rfl) (by kernel_rfl) (by rfl) (fun W' hSw => by go_simp) hHeld ?_
        try simp only [Act.put, List.setIfInBounds_toArray, List.set_cons_zero, List.set_cons_succ]
        refine takeH 18 176 (.agg #[.string x.k, .int .i64 x.w.c, .int .i64 x.w.s, .int .i64 x.w.o]) calm_np rfl rfl (by kernel_rfl) (by kernel_rfl) (by kernel_rfl) (by rfl) (fun W' hSw => by obtain ⟨⟨g0, g1, g2, g3⟩, hsz⟩ := HSL.out _ hSw; go_simp) hHeld ?_
        try simp only [Act.put, List.setIfInBounds_toArray, List.set_cons_zero, List.set_cons_succ]
        refine takeH 19 177 (.bool true) calm_np rfl rfl (by kernel_rfl) (by kernel_rfl) (by kernel_rfl) (by rfl) (fun W' hSw => by go_simp) hHeld ?_
        try simp only [Act.put, List.setIfInBounds_toArray, List.set_cons_zero, List.set_cons_succ]
        refine takeH 20 178 (.bool true) calm_np rfl rfl (by kernel_rfl) (by kernel_rfl) (by kernel_rfl) (by rfl) (fun W' hSw => by go_simp) hHeld ?_
        try simp only [Act.put, List.setIfInBounds_toArray, List.set_cons_zero, List.set_cons_succ]
        refine takeH 21 8 (.bool true) calm_np rfl rfl (by kernel_rfl) (by kernel_rfl) (by kernel_rfl) (by rfl) (fun W' hSw => by go_simp) hHeld ?_
        try simp only [Act.put, List.setIfInBounds_toArray, List.set_cons_zero, List.set_cons_succ]
        refine wpAnyH_done (by kernel_rfl) ?_ _
        refine NoPanic.normal ?_
        have HH := Lib.hid hHeld
        clear hHeld
        go_wp2_with fail
        go_ret
        exact ⟨rfl, below_trans HE8.out HH.out⟩
      · by_cases h2 : 3 < c
        · obtain ⟨rfl, rfl⟩ := HNC.out (by omega)
          obtain rfl : n3 = 0 := HR38.out.cap.1
          clear hm HNC
          have HSX : Hid (∀ W', Below W8.heap.size W8 W' → (W'.cell? ⟨gx, 0, none⟩ = some (.string x.k) ∧ W'.cell? ⟨gx, 1, none⟩ = some (.int .i64 x.w.c) ∧ W'.cell? ⟨gx, 2, none⟩ = some (.int .i64 x.w.s) ∧ W'.cell? ⟨gx, 3, none⟩ = some (.int .i64 x.w.o)) ∧ gx < W'.heap.size) := Lib.hid (fun W' hb => ⟨box4 (HX8.out.below hb), (HX8.out.below hb).1⟩)
          have HSL : Hid (∀ W', Below W8.heap.size W8 W' → (W'.cell? ⟨bl, ol + i * 4, none⟩ = some (.string x.k) ∧ W'.cell? ⟨bl, ol + i * 4 + 1, none⟩ = some (.int .i64 x.w.c) ∧ W'.cell? ⟨bl, ol + i * 4 + 2, none⟩ = some (.int .i64 x.w.s) ∧ W'.cell? ⟨bl, ol + i * 4 + 3, none⟩ = some (.int .i64 x.w.o)) ∧ bl < W'.heap.size) := Lib.hid (fun W' hb => HF4.out _ (below_trans HB8.out hb))
          go_upto_region 25 with fail
          refine wp_region_noPanic ?_
          refine wp_region_held_drew (S := fun W' => Below W8.heap.size W8 W') (by kernel_rfl) (dr W8) (fun hHeld => ?_)
          try simp only [Act.put, List.setIfInBounds_toArray, List.set_cons_zero, List.set_cons_succ]
          refine takeH 0 158 (.int .i64 0) calm_np rfl rfl (by kernel_rfl) (by kernel_rfl) (by kernel_rfl) (by rfl) (fun W' hSw => by go_simp) hHeld ?_
          try simp only [Act.put, List.setIfInBounds_toArray, List.set_cons_zero, List.set_cons_succ]
          refine takeH 1 159 (.bool true) calm_np rfl rfl (by kernel_rfl) (by kernel_rfl) (by kernel_rfl) (by rfl) (fun W' hSw => by go_simp) hHeld ?_
          try simp only [Act.put, List.setIfInBounds_toArray, List.set_cons_zero, List.set_cons_succ]
          refine takeH 2 160 (.bool true) calm_np rfl rfl (by kernel_rfl) (by kernel_rfl) (by kernel_rfl) (by rfl) (fun W' hSw => by go_simp) hHeld ?_
          try simp only [Act.put, List.setIfInBounds_toArray, List.set_cons_zero, List.set_cons_succ]
          refine takeH 3 161 (.slice a2 n2 c2) calm_np rfl rfl (by kernel_rfl) (by kernel_rfl) (by kernel_rfl) (by rfl) (fun W' hSw => by go_simp) hHeld ?_
          try simp only [Act.put, List.setIfInBounds_toArray, List.set_cons_zero, List.set_cons_succ]
          refine takeH 4 162 (.slice (some ⟨bl, ol, none⟩) ln c1) calm_np rfl rfl (by kernel_rfl) (by kernel_rfl) (by kernel_rfl) (by rfl) (fun W' hSw => by go_simp) hHeld ?_
          try simp only [Act.put, List.setIfInBounds_toArray, List.set_cons_zero, List.set_cons_succ]
          refine takeH 5 163 (.int .i64 o) calm_np rfl rfl (by kernel_rfl) (by kernel_rfl) (by kernel_rfl) (by rfl) (fun W' hSw => by go_simp) hHeld ?_
          try simp only [Act.put, List.setIfInBounds_toArray, List.set_cons_zero, List.set_cons_succ]
          refine wpAnyH_ready (rs := [6]) (by kernel_rfl) (by simp) (AllReadyH.cons rfl (fun K hK => ?_) AllReadyH.nil)
          go_simp
          refine (HWO.out _ (below_trans HB8.out hHeld)).mono ?_
          rintro e V1 ⟨u1, rfl, hu1, hz⟩
          obtain ⟨e1, e2, e3, rfl⟩ : ∃ a n c, u1 = .slice a n c := (by obtain ⟨a', c', e⟩ := hu1.row.slice; exact ⟨a', _, c', e⟩)
          have hh := below_trans hHeld hz
          have HSS := Lib.hid (HSM.out _ _ _ _ (HR28.out.below hh) hu1.row)
          clear hz hu1
          go_simp
          refine hK.out _ _ hh (fun hHeld => ?_)
          clear hK hh
          try simp only [Act.put, List.setIfInBounds_toArray, List.set_cons_zero, List.set_cons_succ]
          refine wpAnyH_ready (rs := [7]) (by kernel_rfl) (by simp) (AllReadyH.cons rfl (fun K hK => ?_) AllReadyH.nil)
          go_simp
          refine HSS.out.mono ?_
          rintro e V2 ⟨rfl, hz⟩
          have hh := below_trans hHeld hz
          clear hz
          go_simp
          refine hK.out _ _ hh (fun hHeld => ?_)
          clear hK hh
          try simp only [Act.put, List.setIfInBounds_toArray, List.set_cons_zero, List.set_cons_succ]
          refine takeH 8 166 (.bool true) calm_np rfl rfl (by kernel_rfl) (by kernel_rfl) (by kernel_rfl) (by rfl) (fun W' hSw => by go_simp) hHeld ?_
          try simp only [Act.put, List.setIfInBounds_toArray, List.set_cons_zero, List.set_cons_succ]
          refine takeH 9 167 (.bool true) calm_np rfl rfl (by kernel_rfl) (by kernel_rfl) (by kernel_rfl) (by rfl) (fun W' hSw => by go_simp) hHeld ?_
          try simp only [Act.put, List.setIfInBounds_toArray, List.set_cons_zero, List.set_cons_succ]
          refine takeH 10 168 (.int .i64 0) calm_np rfl rfl (by kernel_rfl) (by kernel_rfl) (by kernel_rfl) (by rfl) (fun W' hSw => by go_simp) hHeld ?_
          try simp only [Act.put, List.setIfInBounds_toArray, List.set_cons_zero, List.set_cons_succ]
          refine takeH 11 169 (.bool true) calm_np rfl rfl (by kernel_rfl) (by kernel_rfl) (by kernel_rfl) (by rfl) (fun W' hSw => by go_simp) hHeld ?_
          try simp only [Act.put, List.setIfInBounds_toArray, List.set_cons_zero, List.set_cons_succ]
          refine takeH 12 170 (.bool true) calm_np rfl rfl (by kernel_rfl) (by kernel_rfl) (by kernel_rfl) (by rfl) (fun W' hSw => by go_simp) hHeld ?_
          try simp only [Act.put, List.setIfInBounds_toArray, List.set_cons_zero, List.set_cons_succ]
          refine takeH 13 171 (.bool true) calm_np rfl rfl (by kernel_rfl) (by kernel_rfl) (by kernel_rfl) (by rfl) (fun W' hSw => by go_simp) hHeld ?_
          try simp only [Act.put, List.setIfInBounds_toArray, List.set_cons_zero, List.set_cons_succ]
          refine takeH 14 172 (.agg #[.string x.k, .int .i64 x.w.c, .int .i64 x.w.s, .int .i64 x.w.o]) calm_np rfl rfl (by kernel_rfl) (by kernel_rfl) (by kernel_rfl) (by rfl) (fun W' hSw => by obtain ⟨⟨g0, g1, g2, g3⟩, hsz⟩ := HSX.out _ hSw; go_simp) hHeld ?_
          try simp only [Act.put, List.setIfInBounds_toArray, List.set_cons_zero, List.set_cons_succ]
          refine takeH 15 173 (.slice (some ⟨bl, ol, none⟩) ln c1) calm_np rfl rfl (by kernel_rfl) (by kernel_rfl) (by kernel_rfl) (by rfl) (fun W' hSw => by go_simp) hHeld ?_
          try simp only [Act.put, List.setIfInBounds_toArray, List.set_cons_zero, List.set_cons_succ]
          refine takeH 16 174 (.int .i64 i) calm_np rfl rfl (by kernel_rfl) (by kernel_rfl) (by kernel_rfl) (by rfl) (fun W' hSw => by go_simp) hHeld ?_
          try simp only [Act.put, List.setIfInBounds_toArray, List.set_cons_zero, List.set_cons_succ]
          refine takeH 17 175 (.pointer (some ⟨bl, ol + i * 4, none⟩)) calm_np rfl rfl (by kernel_rfl) (by kernel_rfl) (by kernel_rfl) (by rfl) (fun W' hSw => by go_simp) hHeld ?_
          try simp only [Act.put, List.setIfInBounds_toArray, List.set_cons_zero, List.set_cons_succ]
          refine takeH 18 176 (.agg #[.string x.k, .int .i64 x.w.c, .int .i64 x.w.s, .int .i64 x.w.o]) calm_np rfl rfl (by kernel_rfl) (by kernel_rfl) (by kernel_rfl) (by rfl) (fun W' hSw => by obtain ⟨⟨g0, g1, g2, g3⟩, hsz⟩ := HSL.out _ hSw; go_simp) hHeld ?_
          try simp only [Act.put, List.setIfInBounds_toArray, List.set_cons_zero, List.set_cons_succ]
          refine takeH 19 177 (.bool true) calm_np rfl rfl (by kernel_rfl) (by kernel_rfl) (by kernel_rfl) (by rfl) (fun W' hSw => by go_simp) hHeld ?_
          try simp only [Act.put, List.setIfInBounds_toArray, List.set_cons_zero, List.set_cons_succ]
          refine takeH 20 178 (.bool true) calm_np rfl rfl (by kernel_rfl) (by kernel_rfl) (by kernel_rfl) (by rfl) (fun W' hSw => by go_simp) hHeld ?_
          try simp only [Act.put, List.setIfInBounds_toArray, List.set_cons_zero, List.set_cons_succ]
          refine takeH 21 8 (.bool true) calm_np rfl rfl (by kernel_rfl) (by kernel_rfl) (by kernel_rfl) (by rfl) (fun W' hSw => by go_simp) hHeld ?_
          try simp only [Act.put, List.setIfInBounds_toArray, List.set_cons_zero, List.set_cons_succ]
          refine wpAnyH_done (by kernel_rfl) ?_ _
          refine NoPanic.normal ?_
          have HH := Lib.hid hHeld
          clear hHeld
          go_wp2_with fail
          go_ret
          exact ⟨rfl, below_trans HE8.out HH.out⟩
        · obtain ⟨rfl, rfl⟩ := hm ⟨by omega, by omega⟩
          clear hm HNC
          have HWI := Lib.hid (fun (u : Value) W (hr : LRow W u (withoutL l o)) => refWith_any hr ⟨by have := HWL.out; omega, HWS.out⟩ (by have := HWL.out; omega) (inClass x c) HXS.out)
          unfold lv inClass at HWI
          obtain ⟨⟨k0, k1, k2, k3⟩, hbl8⟩ := HF4.out _ HB8.out
          have hba := al W8 (.cells #[.string x.k, .int .i64 c, .int .i64 x.w.s, .int .i64 x.w.o] 26)
          have hbx := Box.made W8 [.string x.k, .int .i64 c, .int .i64 x.w.s, .int .i64 x.w.o] 26
          obtain ⟨W9, hW9⟩ : ∃ W, W8.alloc (.cells #[.string x.k, .int .i64 c, .int .i64 x.w.s, .int .i64 x.w.o] 26) = W := ⟨_, rfl⟩
          have HC9 : Hid (Below W8.heap.size W8 W9) := Lib.hid (hW9 ▸ hba)
          have HB9 := Lib.hid (below_trans HB8.out HC9.out)
          have HR39 := Lib.hid (HR38.out.below HC9.out)
          have HSF : Hid (∀ W', Below W9.heap.size W9 W' → (W'.cell? ⟨W8.heap.size, 0, none⟩ = some (.string x.k) ∧ W'.cell? ⟨W8.heap.size, 1, none⟩ = some (.int .i64 c) ∧ W'.cell? ⟨W8.heap.size, 2, none⟩ = some (.int .i64 x.w.s) ∧ W'.cell? ⟨W8.heap.size, 3, none⟩ = some (.int .i64 x.w.o)) ∧ W8.heap.size < W'.heap.size) := Lib.hid (fun W' hb => by
            have hh : Box W8.heap.size [.string x.k, .int .i64 c, .int .i64 x.w.s, .int .i64 x.w.o] W9 := hW9 ▸ hbx
            have hk := hh.below hb
            exact ⟨⟨(hk.2 0 _ rfl).1, (hk.2 1 _ rfl).1, (hk.2 2 _ rfl).1, (hk.2 3 _ rfl).1⟩, hk.1⟩)
          clear hba hbx
          go_upto_region 21 with fail
          clear hW9 k0 k1 k2 k3 hbl8
          go_cut [139] from 128 to 139 (fun b wx => b = .bool false ∧ Below W9.heap.size W9 wx)
          case first =>
            refine wp_region_noPanic ?_
            refine wp_region_held_drew (S := fun W' => Below W9.heap.size W9 W') (by kernel_rfl) (dr W9) (fun hHeld => ?_)
            try simp only [Act.put, List.setIfInBounds_toArray, List.set_cons_zero, List.set_cons_succ]
            refine takeH 0 128 (.int .i64 0) calm_np rfl rfl (by kernel_rfl) (by kernel_rfl) (by kernel_rfl) (by rfl) (fun W' hSw => by go_simp) hHeld ?_
            try simp only [Act.put, List.setIfInBounds_toArray, List.set_cons_zero, List.set_cons_succ]
            refine takeH 1 129 (.bool false) calm_np rfl rfl (by kernel_rfl) (by kernel_rfl) (by kernel_rfl) (by rfl) (fun W' hSw => by go_simp) hHeld ?_
            try simp only [Act.put, List.setIfInBounds_toArray, List.set_cons_zero, List.set_cons_succ]
            refine takeH 2 130 (.bool false) calm_np rfl rfl (by kernel_rfl) (by kernel_rfl) (by kernel_rfl) (by rfl) (fun W' hSw => by go_simp) hHeld ?_
            try simp only [Act.put, List.setIfInBounds_toArray, List.set_cons_zero, List.set_cons_succ]
            refine takeH 3 131 (.slice a3 n3 c3) calm_np rfl rfl (by kernel_rfl) (by kernel_rfl) (by kernel_rfl) (by rfl) (fun W' hSw => by go_simp) hHeld ?_
            try simp only [Act.put, List.setIfInBounds_toArray, List.set_cons_zero, List.set_cons_succ]
            refine takeH 4 132 (.slice (some ⟨bl, ol, none⟩) ln c1) calm_np rfl rfl (by kernel_rfl) (by kernel_rfl) (by kernel_rfl) (by rfl) (fun W' hSw => by go_simp) hHeld ?_
            try simp only [Act.put, List.setIfInBounds_toArray, List.set_cons_zero, List.set_cons_succ]
            refine takeH 5 133 (.int .i64 o) calm_np rfl rfl (by kernel_rfl) (by kernel_rfl) (by kernel_rfl) (by rfl) (fun W' hSw => by go_simp) hHeld ?_
            try simp only [Act.put, List.setIfInBounds_toArray, List.set_cons_zero, List.set_cons_succ]
            refine takeH 7 135 (.agg #[.string x.k, .int .i64 c, .int .i64 x.w.s, .int .i64 x.w.o]) calm_np rfl rfl (by kernel_rfl) (by kernel_rfl) (by kernel_rfl) (by rfl) (fun W' hSw => by obtain ⟨⟨g0, g1, g2, g3⟩, hsz⟩ := HSF.out _ hSw; go_simp) hHeld ?_
            try simp only [Act.put, List.setIfInBounds_toArray, List.set_cons_zero, List.set_cons_succ]
            refine wpAnyH_ready (rs := [6]) (by kernel_rfl) (by simp) (AllReadyH.cons rfl (fun K hK => ?_) AllReadyH.nil)
            go_simp
            refine (HWO.out _ (below_trans HB9.out hHeld)).mono ?_
            rintro e V1 ⟨u1, rfl, hu1, hz⟩
            obtain ⟨e1, e2, e3, rfl⟩ : ∃ a n c, u1 = .slice a n c := (by obtain ⟨a', c', e⟩ := hu1.row.slice; exact ⟨a', _, c', e⟩)
            have HU1 := Lib.hid hu1.row
            have hh := below_trans hHeld hz
            have HV1 := Lib.hid hh
            clear hz hu1
            go_simp
            refine hK.out _ _ hh (fun hHeld => ?_)
            clear hK hh
            try simp only [Act.put, List.setIfInBounds_toArray, List.set_cons_zero, List.set_cons_succ]
            refine wpAnyH_ready (rs := [8]) (by kernel_rfl) (by simp) (AllReadyH.cons rfl (fun K hK => ?_) AllReadyH.nil)
            go_simp
            refine (HWI.out _ _ HU1.out).mono ?_
            rintro e V2 ⟨u2, rfl, hu2, hz⟩
            obtain ⟨f1, f2, f3, rfl⟩ : ∃ a n c, u2 = .slice a n c := (by obtain ⟨a', c', e⟩ := hu2.slice; exact ⟨a', _, c', e⟩)
            have hh := below_trans hHeld hz
            have HV2 := Lib.hid hh
            have HSS := Lib.hid (HSM.out _ _ _ _ (HR39.out.below hh) hu2)
            clear hz hu2
            go_simp
            refine hK.out _ _ hh (fun hHeld => ?_)
            clear hK hh
            try simp only [Act.put, List.setIfInBounds_toArray, List.set_cons_zero, List.set_cons_succ]
            refine wpAnyH_ready (rs := [9]) (by kernel_rfl) (by simp) (AllReadyH.cons rfl (fun K hK => ?_) AllReadyH.nil)
            go_simp
            refine HSS.out.mono ?_
            rintro e V3 ⟨rfl, hz⟩
            have hh := below_trans hHeld hz
            clear hz
            go_simp
            refine hK.out _ _ hh (fun hHeld => ?_)
            clear hK hh
            try simp only [Act.put, List.setIfInBounds_toArray, List.set_cons_zero, List.set_cons_succ]
            refine takeH 10 138 (.bool false) calm_np rfl rfl (by kernel_rfl) (by kernel_rfl) (by kernel_rfl) (by rfl) (fun W' hSw => by go_simp) hHeld ?_
            try simp only [Act.put, List.setIfInBounds_toArray, List.set_cons_zero, List.set_cons_succ]
            refine takeH 11 139 (.bool false) calm_np rfl rfl (by kernel_rfl) (by kernel_rfl) (by kernel_rfl) (by rfl) (fun W' hSw => by go_simp) hHeld ?_
            try simp only [Act.put, List.setIfInBounds_toArray, List.set_cons_zero, List.set_cons_succ]
            refine wpAnyH_done (by kernel_rfl) ?_ _
            refine NoPanic.normal ?_
            have HH := Lib.hid hHeld
            clear hHeld
            go_wp2_with fail
            go_meet
            exact ⟨rfl, HH.out⟩
          case rest =>
            obtain ⟨rfl, hbel⟩ := hcut
            have HB8' := Lib.hid (below_trans HB9.out hbel)
            have HX8' := Lib.hid ((HX8.out.below HC9.out).below hbel)
            have HR28' := Lib.hid ((HR28.out.below HC9.out).below hbel)
            clear HX8 HR28 HB8 HE8 HR38 HR39 HSF
            rename World => W10
            have HB8 := HB8'
            have HX8 := HX8'
            have HR28 := HR28'
            clear HB8' HX8' HR28' hbel HC9 HB9
            have HE8 := Lib.hid (below_trans HB.out HB8.out)
            have HSX : Hid (∀ W', Below W10.heap.size W10 W' → (W'.cell? ⟨gx, 0, none⟩ = some (.string x.k) ∧ W'.cell? ⟨gx, 1, none⟩ = some (.int .i64 x.w.c) ∧ W'.cell? ⟨gx, 2, none⟩ = some (.int .i64 x.w.s) ∧ W'.cell? ⟨gx, 3, none⟩ = some (.int .i64 x.w.o)) ∧ gx < W'.heap.size) := Lib.hid (fun W' hb => ⟨box4 (HX8.out.below hb), (HX8.out.below hb).1⟩)
            have HSL : Hid (∀ W', Below W10.heap.size W10 W' → (W'.cell? ⟨bl, ol + i * 4, none⟩ = some (.string x.k) ∧ W'.cell? ⟨bl, ol + i * 4 + 1, none⟩ = some (.int .i64 x.w.c) ∧ W'.cell? ⟨bl, ol + i * 4 + 2, none⟩ = some (.int .i64 x.w.s) ∧ W'.cell? ⟨bl, ol + i * 4 + 3, none⟩ = some (.int .i64 x.w.o)) ∧ bl < W'.heap.size) := Lib.hid (fun W' hb => HF4.out _ (below_trans HB8.out hb))
            go_upto_region 25 with fail
            refine wp_region_noPanic ?_
            refine wp_region_held_drew (S := fun W' => Below W10.heap.size W10 W') (by kernel_rfl) (dr W10) (fun hHeld => ?_)
            try simp only [Act.put, List.setIfInBounds_toArray, List.set_cons_zero, List.set_cons_succ]
            refine takeH 0 158 (.int .i64 0) calm_np rfl rfl (by kernel_rfl) (by kernel_rfl) (by kernel_rfl) (by rfl) (fun W' hSw => by go_simp) hHeld ?_
            try simp only [Act.put, List.setIfInBounds_toArray, List.set_cons_zero, List.set_cons_succ]
            refine takeH 1 159 (.bool true) calm_np rfl rfl (by kernel_rfl) (by kernel_rfl) (by kernel_rfl) (by rfl) (fun W' hSw => by go_simp) hHeld ?_
            try simp only [Act.put, List.setIfInBounds_toArray, List.set_cons_zero, List.set_cons_succ]
            refine takeH 2 160 (.bool true) calm_np rfl rfl (by kernel_rfl) (by kernel_rfl) (by kernel_rfl) (by rfl) (fun W' hSw => by go_simp) hHeld ?_
            try simp only [Act.put, List.setIfInBounds_toArray, List.set_cons_zero, List.set_cons_succ]
            refine takeH 3 161 (.slice a2 n2 c2) calm_np rfl rfl (by kernel_rfl) (by kernel_rfl) (by kernel_rfl) (by rfl) (fun W' hSw => by go_simp) hHeld ?_
            try simp only [Act.put, List.setIfInBounds_toArray, List.set_cons_zero, List.set_cons_succ]
            refine takeH 4 162 (.slice (some ⟨bl, ol, none⟩) ln c1) calm_np rfl rfl (by kernel_rfl) (by kernel_rfl) (by kernel_rfl) (by rfl) (fun W' hSw => by go_simp) hHeld ?_
            try simp only [Act.put, List.setIfInBounds_toArray, List.set_cons_zero, List.set_cons_succ]
            refine takeH 5 163 (.int .i64 o) calm_np rfl rfl (by kernel_rfl) (by kernel_rfl) (by kernel_rfl) (by rfl) (fun W' hSw => by go_simp) hHeld ?_
            try simp only [Act.put, List.setIfInBounds_toArray, List.set_cons_zero, List.set_cons_succ]
            refine wpAnyH_ready (rs := [6]) (by kernel_rfl) (by simp) (AllReadyH.cons rfl (fun K hK => ?_) AllReadyH.nil)
            go_simp
            refine (HWO.out _ (below_trans HB8.out hHeld)).mono ?_
            rintro e V1 ⟨u1, rfl, hu1, hz⟩
            obtain ⟨e1, e2, e3, rfl⟩ : ∃ a n c, u1 = .slice a n c := (by obtain ⟨a', c', e⟩ := hu1.row.slice; exact ⟨a', _, c', e⟩)
            have hh := below_trans hHeld hz
            have HSS := Lib.hid (HSM.out _ _ _ _ (HR28.out.below hh) hu1.row)
            clear hz hu1
            go_simp
            refine hK.out _ _ hh (fun hHeld => ?_)
            clear hK hh
            try simp only [Act.put, List.setIfInBounds_toArray, List.set_cons_zero, List.set_cons_succ]
            refine wpAnyH_ready (rs := [7]) (by kernel_rfl) (by simp) (AllReadyH.cons rfl (fun K hK => ?_) AllReadyH.nil)
            go_simp
            refine HSS.out.mono ?_
            rintro e V2 ⟨rfl, hz⟩
            have hh := below_trans hHeld hz
            clear hz
            go_simp
            refine hK.out _ _ hh (fun hHeld => ?_)
            clear hK hh
            try simp only [Act.put, List.setIfInBounds_toArray, List.set_cons_zero, List.set_cons_succ]
            refine takeH 8 166 (.bool true) calm_np rfl rfl (by kernel_rfl) (by kernel_rfl) (by kernel_rfl) (by rfl) (fun W' hSw => by go_simp) hHeld ?_
            try simp only [Act.put, List.setIfInBounds_toArray, List.set_cons_zero, List.set_cons_succ]
            refine takeH 9 167 (.bool true) calm_np rfl rfl (by kernel_rfl) (by kernel_rfl) (by kernel_rfl) (by rfl) (fun W' hSw => by go_simp) hHeld ?_
            try simp only [Act.put, List.setIfInBounds_toArray, List.set_cons_zero, List.set_cons_succ]
            refine takeH 10 168 (.int .i64 0) calm_np rfl rfl (by kernel_rfl) (by kernel_rfl) (by kernel_rfl) (by rfl) (fun W' hSw => by go_simp) hHeld ?_
            try simp only [Act.put, List.setIfInBounds_toArray, List.set_cons_zero, List.set_cons_succ]
            refine takeH 11 169 (.bool true) calm_np rfl rfl (by kernel_rfl) (by kernel_rfl) (by kernel_rfl) (by rfl) (fun W' hSw => by go_simp) hHeld ?_
            try simp only [Act.put, List.setIfInBounds_toArray, List.set_cons_zero, List.set_cons_succ]
            refine takeH 12 170 (.bool true) calm_np rfl rfl (by kernel_rfl) (by kernel_rfl) (by kernel_rfl) (by rfl) (fun W' hSw => by go_simp) hHeld ?_
            try simp only [Act.put, List.setIfInBounds_toArray, List.set_cons_zero, List.set_cons_succ]
            refine takeH 13 171 (.bool true) calm_np rfl rfl (by kernel_rfl) (by kernel_rfl) (by kernel_rfl) (by rfl) (fun W' hSw => by go_simp) hHeld ?_
            try simp only [Act.put, List.setIfInBounds_toArray, List.set_cons_zero, List.set_cons_succ]
            refine takeH 14 172 (.agg #[.string x.k, .int .i64 x.w.c, .int .i64 x.w.s, .int .i64 x.w.o]) calm_np rfl rfl (by kernel_rfl) (by kernel_rfl) (by kernel_rfl) (by rfl) (fun W' hSw => by obtain ⟨⟨g0, g1, g2, g3⟩, hsz⟩ := HSX.out _ hSw; go_simp) hHeld ?_
            try simp only [Act.put, List.setIfInBounds_toArray, List.set_cons_zero, List.set_cons_succ]
            refine takeH 15 173 (.slice (some ⟨bl, ol, none⟩) ln c1) calm_np rfl rfl (by kernel_rfl) (by kernel_rfl) (by kernel_rfl) (by rfl) (fun W' hSw => by go_simp) hHeld ?_
            try simp only [Act.put, List.setIfInBounds_toArray, List.set_cons_zero, List.set_cons_succ]
            refine takeH 16 174 (.int .i64 i) calm_np rfl rfl (by kernel_rfl) (by kernel_rfl) (by kernel_rfl) (by rfl) (fun W' hSw => by go_simp) hHeld ?_
            try simp only [Act.put, List.setIfInBounds_toArray, List.set_cons_zero, List.set_cons_succ]
            refine takeH 17 175 (.pointer (some ⟨bl, ol + i * 4, none⟩)) calm_np rfl rfl (by kernel_rfl) (by kernel_rfl) (by kernel_rfl) (by rfl) (fun W' hSw => by go_simp) hHeld ?_
            try simp only [Act.put, List.setIfInBounds_toArray, List.set_cons_zero, List.set_cons_succ]
            refine takeH 18 176 (.agg #[.string x.k, .int .i64 x.w.c, .int .i64 x.w.s, .int .i64 x.w.o]) calm_np rfl rfl (by kernel_rfl) (by kernel_rfl) (by kernel_rfl) (by rfl) (fun W' hSw => by obtain ⟨⟨g0, g1, g2, g3⟩, hsz⟩ := HSL.out _ hSw; go_simp) hHeld ?_
            try simp only [Act.put, List.setIfInBounds_toArray, List.set_cons_zero, List.set_cons_succ]
            refine takeH 19 177 (.bool true) calm_np rfl rfl (by kernel_rfl) (by kernel_rfl) (by kernel_rfl) (by rfl) (fun W' hSw => by go_simp) hHeld ?_
            try simp only [Act.put, List.setIfInBounds_toArray, List.set_cons_zero, List.set_cons_succ]
            refine takeH 20 178 (.bool true) calm_np rfl rfl (by kernel_rfl) (by kernel_rfl) (by kernel_rfl) (by rfl) (fun W' hSw => by go_simp) hHeld ?_
            try simp only [Act.put, List.setIfInBounds_toArray, List.set_cons_zero, List.set_cons_succ]
            refine takeH 21 8 (.bool true) calm_np rfl rfl (by kernel_rfl) (by kernel_rfl) (by kernel_rfl) (by rfl) (fun W' hSw => by go_simp) hHeld ?_
            try simp only [Act.put, List.setIfInBounds_toArray, List.set_cons_zero, List.set_cons_succ]
            refine wpAnyH_done (by kernel_rfl) ?_ _
            refine NoPanic.normal ?_
            have HH := Lib.hid hHeld
            clear hHeld
            go_wp2_with fail
            go_ret
            exact ⟨rfl, below_trans HE8.out HH.out⟩

set_option maxRecDepth 100000 in
set_option maxHeartbeats 4000000 in
theorem lifted (os : Os) (started : os.Started) (H : Type) (enc : TypeId × Value → H) :
    ReturnsInHanded {} Try.checked os 4 .any (Rows.waitsGoSpec.pre6 enc Try.prog Try.f4 Rows.waitsGoRow.domain false) (Rows.waitsGoSpec.post enc Try.prog Try.f4 false true false false) := by
  refine returnsInHanded_of_change (C := Try.checked) own started (by kernel_rfl) Try.func4
    (ChangeSpec.witness6 (enc := enc) (C := Try.checked) false ⟨#[], #[.slice none 0 0, .int .i64 0, .int .i64 0, .string ByteArray.empty], []⟩ 8 (by kernel_rfl) (by kernel_rfl) (by kernel_rfl) (by kernel_rfl)) ?_
  intro W base args ds gs before hval0 hW hcnd _
  have hval : ∀ (j : Nat) t v, Try.f4.params[j]? = some t → args[j]? = some v → Value.okWide Try.prog W .any base t v := hval0
  have hW' := hW
  obtain ⟨p, q, hA0, hV, rfl, hfz, hnd⟩ := hW
  have hA : DataW.TrodAll enc Try.prog W 0 (fun _ => true) true Try.f4.params.toList args.toList ds p := hA0
  rw [Try.params4] at hA hval
  obtain ⟨v0, vs0, d0, ds0, p0, q0, hargs, rfl, rfl, h0, r0⟩ := trodAll_cons hA
  obtain ⟨v1, vs1, d1, ds1, p1, q1, rfl, rfl, rfl, h1, r1⟩ := trodAll_cons r0
  obtain ⟨v2, vs2, d2, ds2, p2, q2, rfl, rfl, rfl, h2, r2⟩ := trodAll_cons r1
  obtain ⟨v3, vs3, d3, ds3, p3, q3, rfl, rfl, rfl, h3, r3⟩ := trodAll_cons r2
  obtain ⟨rfl, rfl, rfl⟩ := trodAll_nil r3
  obtain rfl : args = #[v0, v1, v2, v3] := by cases args; simp_all
  obtain ⟨rfl, rfl⟩ := trodVars_none hV
  have k0 := h0
  have lt0 : ∀ x ∈ p0, x.block < W.heap.size := by obtain ⟨m, hm⟩ := k0; exact DataW.trod_lt m _ _ _ hm
  obtain ⟨fuel0, hf0⟩ := h0
  obtain ⟨aa0, ll0, cc0, rfl⟩ := okWide_slice Try.underlying22 (hval 0 22 v0 rfl rfl)
  have w0 := argL_of (v := .slice aa0 ll0 cc0) hf0
  obtain ⟨a1, rfl, rfl, rfl, w1⟩ := open_int Try.underlying3 (hval 1 3 v1 rfl rfl) h1
  have hb1 : -9223372036854775808 ≤ a1 ∧ a1 ≤ 9223372036854775807 := by
    have := w1
    simp [Lit.wf, IntKind.min, IntKind.max, IntKind.bits, IntKind.signed] at this
    omega
  obtain ⟨a2, rfl, rfl, rfl, w2⟩ := open_int Try.underlying3 (hval 2 3 v2 rfl rfl) h2
  have hb2 : -9223372036854775808 ≤ a2 ∧ a2 ≤ 9223372036854775807 := by
    have := w2
    simp [Lit.wf, IntKind.min, IntKind.max, IntKind.bits, IntKind.signed] at this
    omega
  obtain ⟨a3, rfl, rfl, rfl, w3⟩ := open_string Try.underlying9 (hval 3 9 v3 rfl rfl) h3
  clear hA0 hval0
  refine (walk0 (.slice aa0 ll0 cc0) a1 hb1.1 hb1.2 a2 hb2.1 hb2.2 a3 (by simpa [maxLen] using w3) W w0).mono fun e W' ⟨he, bel⟩ => ?_
  subst he
  exact ⟨_, rfl, _, _, _, [], _, [], hW', trodAll_mk1 (shut_bool Try.underlying4 _), (trodAll_cons_mk (Below.trod laidOut (by kernel_rfl) (of_decide_eq_true (by kernel_rfl)) k0 bel lt0) (trodAll_cons_mk (shut_int Try.underlying3 w1) (trodAll_cons_mk (shut_int Try.underlying3 w2) (trodAll_cons_mk (shut_string Try.underlying9 w3) trodAll_mk0)))), rfl, bel.frame _, fun h => by cases h⟩

theorem over : Rows.waitsGoRow.holds Try.pinned (OpenSpec.ofChange Rows.waitsGoSpec) :=
  OpenClaim.holds_of_wide 4 Try.f4 rfl rfl rfl rfl rfl rfl rfl ⟨rfl, rfl, rfl, rfl, rfl⟩ rfl rfl rfl rfl rfl (by kernel_rfl) Try.func4 (by kernel_rfl)
    (of_decide_eq_true (by kernel_rfl)) (by unfold Func.isWrapper; first | (rw [if_pos (by decide +kernel)]; kernel_rfl) | (rw [if_neg (by decide +kernel)]; exact ⟨rfl, rfl⟩))
    (fun os started H enc _ => lifted os started H enc)

theorem proved : Rows.WaitsGoSaid := over
#print axioms proved
end Go.Proofs.Ytcehhgcfkoldfaa.waitsGo
