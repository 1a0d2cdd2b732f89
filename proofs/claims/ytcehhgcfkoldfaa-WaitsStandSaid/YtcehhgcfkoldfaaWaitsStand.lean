/-
  Proved: for any lines and any line the law WaitsStand returns true: which lines are an index, the index of any, and what a line more makes of any, is as the reference says, or refused. No condition.
-/
import Derived.Test.YtcehhgcfkoldfaaRows
import Derived.Test.YtcehhgcfkoldfaaWArg
import Derived.Test.YtcehhgcfkoldfaaWHold
import Derived.Test.YtcehhgcfkoldfaaWAlive
import Derived.Test.YtcehhgcfkoldfaaWRef4
import Derived.Test.YtcehhgcfkoldfaaWCalls
namespace Go.Proofs.Ytcehhgcfkoldfaa.waitsStand
open Go.ChangeShapes Go.WideShapes Go.ChangeAt Go.RowKit Go.Lib Go.Proofs.Ytcehhgcfkoldfaa.Goods Go.Proofs.Ytcehhgcfkoldfaa.Waits
open Go.Proofs.Ytcehhgcfkoldfaa.Queue (Wt ltB wv QRow)
open Go.ChangeMaps (open_string shut_string)
set_option linter.unusedVariables false

theorem own : ownKnob Try.prog.godebug = none := by kernel_rfl
theorem laidOut : laidOutB Try.prog = true := by kernel_rfl

set_option maxRecDepth 100000 in
set_option maxHeartbeats 8000000 in
theorem walk0 (v : Value) (x : Ln) (hx : x.k.size ≤ 9223372036854775807) (w : World) (hv : ArgL w v) :
    Calls Try.prog 3 #[v, lv x] w (BoolB true w) := by
  obtain ⟨l0, hr0, hl0⟩ := hv
  have HFE := Lib.hid (fun W (hW : Below w.heap.size w W) => few_any (w := W) ⟨l0, hr0.below hW, hl0⟩)
  obtain ⟨a, cap, rfl⟩ := hr0.slice
  have hcu := fun W => cut_any x hx W
  unfold CutE at hcu
  have HCU := Lib.hid hcu
  have HX00 := Lib.hid (Box.made w (lcs x) 26)
  have HB00 := Lib.hid (al w (.cells #[.string x.k, .int .i64 x.w.c, .int .i64 x.w.s, .int .i64 x.w.o] 26))
  clear hr0 hl0 hcu hx
  generalize l0.length = n0 at *
  unfold lv
  go_enter Try.func3, Try.ntmps3
  go_upto_region 1 with (fail)
  obtain ⟨W, hW⟩ : ∃ W, w.alloc (.cells #[.string x.k, .int .i64 x.w.c, .int .i64 x.w.s, .int .i64 x.w.o] 26) = W := ⟨_, rfl⟩
  have HX0 : Hid (Box w.heap.size (lcs x) W) := Lib.hid (hW ▸ HX00.out)
  have HB0 : Hid (Below w.heap.size w W) := Lib.hid (hW ▸ HB00.out)
  rw [hW]
  clear hW HX00 HB00
  go_cut [0] from 10 to 13 (fun u wx => ∃ l a c y, u = .slice a l.length c ∧ Tiny l ∧ LRow wx (.slice a l.length c) l ∧ y.k.size ≤ 18 ∧ Box w.heap.size (lcs y) wx ∧ Below w.heap.size w wx)
  case first =>
    refine wp_region_noPanic ?_
    refine till_region (fun W' => Box w.heap.size (lcs x) W' ∧ Below w.heap.size w W') (fun j => decide (4 ≤ j)) (by kernel_rfl) ?_
    have hS : Box w.heap.size (lcs x) W.drew ∧ Below w.heap.size w W.drew := ⟨HX0.out.below (dr W), below_trans HB0.out (dr W)⟩
    try simp only [Act.put, List.setIfInBounds_toArray, List.set_cons_zero, List.set_cons_succ]
    refine takeT 0 10 [4, 5] (.slice a n0 cap) calm_np rfl rfl (by kernel_rfl) (by rfl) (by kernel_rfl) (by kernel_rfl) (by kernel_rfl) (by kernel_rfl) (by rfl) (fun w' hSw => by go_simp) hS ?_
    try simp only [Act.put, List.setIfInBounds_toArray, List.set_cons_zero, List.set_cons_succ]
    refine takeT 2 12 [3, 4, 5] (.agg #[.string x.k, .int .i64 x.w.c, .int .i64 x.w.s, .int .i64 x.w.o]) calm_np rfl rfl (by kernel_rfl) (by rfl) (by kernel_rfl) (by kernel_rfl) (by kernel_rfl) (by kernel_rfl) (by rfl) (fun w' hSw => by obtain ⟨c0, c1, c2, c3⟩ := box4 hSw.1; have hsl := hSw.1.1; go_simp) hS ?_
    try simp only [Act.put, List.setIfInBounds_toArray, List.set_cons_zero, List.set_cons_succ]
    refine till_ready (rs := [1]) (by kernel_rfl) (by simp) (Each.cons rfl (fun K hK => ?_) Each.nil)
    go_simp
    go_at_call 7
    refine (HFE.out _ hS.2).mono ?_
    rintro e V1 ⟨v1, l, rfl, htiny, hown, hz⟩
    obtain ⟨av, cv, rfl⟩ := hown.row.slice
    have hS1 : Box w.heap.size (lcs x) V1 ∧ Below w.heap.size w V1 := ⟨hS.1.below hz, below_trans hS.2 hz⟩
    have hlt : w.heap.size < W.drew.heap.size := hS.1.1
    go_simp
    refine hK.out _ _ (fun _ => hS1) ?_
    clear hK
    try simp only [Act.put, List.setIfInBounds_toArray, List.set_cons_zero, List.set_cons_succ]
    refine till_ready (rs := [3]) (by kernel_rfl) (by simp) (Each.cons rfl (fun K hK => ?_) Each.nil)
    go_simp
    go_at_call 8
    refine (HCU.out _).mono ?_
    rintro e V2 ⟨s, rfl, hs18, hz2⟩
    have hS2 : Box w.heap.size (lcs x) V2 ∧ Below w.heap.size w V2 := ⟨hS1.1.below hz2, below_trans hS1.2 hz2⟩
    have hrow := (((((hown.below hz2).far hlt 0 (.string s)).far hlt 1 (.int .i64 x.w.c)).far hlt 2 (.int .i64 x.w.s)).far hlt 3 (.int .i64 x.w.o)).row
    have hbox := Waits.Box.four hS2.1 (.string s) (.int .i64 x.w.c) (.int .i64 x.w.s) (.int .i64 x.w.o)
    have hbel := below_four (b := w.heap.size) (.string s) (.int .i64 x.w.c) (.int .i64 x.w.s) (.int .i64 x.w.o) hS2.2 (Nat.le_refl _)
    obtain ⟨d0, d1, d2, d3⟩ := box4 hS2.1
    obtain ⟨f0, f1, f2, f3⟩ := free4 hS2.1
    have hsl := hS2.1.1
    have HROW := Lib.hid hrow
    have HBOX := Lib.hid hbox
    have HBEL := Lib.hid hbel
    clear hrow hbox hbel
    go_simp
    refine hK.out _ _ (fun _ => hS2) ?_
    clear hK
    try simp only [Act.put, List.setIfInBounds_toArray, List.set_cons_zero, List.set_cons_succ]
    refine till_ready (rs := [4]) (by kernel_rfl) (by simp) (Each.cons rfl (fun K hK => ?_) Each.nil)
    go_simp
    refine hK.out _ _ (fun h => by cases h) ?_
    clear hK
    try simp only [Act.put, List.setIfInBounds_toArray, List.set_cons_zero, List.set_cons_succ]
    refine till_ready (rs := [5]) (by kernel_rfl) (by simp) (Each.cons rfl (fun K hK => ?_) Each.nil)
    go_simp
    refine hK.out _ _ (fun h => by cases h) ?_
    clear hK
    try simp only [Act.put, List.setIfInBounds_toArray, List.set_cons_zero, List.set_cons_succ]
    refine till_done (by kernel_rfl) ?_ _
    refine NoPanic.normal ?_
    go_wp2_with fail
    go_meet
    exact ⟨l, av, cv, ⟨s, x.w⟩, rfl, htiny, HROW.out, hs18, HBOX.out, HBEL.out⟩
  case rest =>
  obtain ⟨l, a1, c1, y, rfl, hti, hrow, hy18, hbox, hbel⟩ := hcut
  clear HFE HCU HX0 HB0
  rename World => w1
  have hbr := hti.brief
  have hlen := hti.1
  have hys : y.k.size ≤ 1000000 := by omega
  have HB := Lib.hid hbel
  have HBX := Lib.hid hbox
  have HMK := Lib.hid (Make_any hrow hbr)
  have hpu := fun W (hb : Below w1.heap.size w1 W) => Put_any (hrow.below hb) hbr y hys
  have HRI := Lib.hid (fun W (hb : Below w1.heap.size w1 W) => Waits.Right_any (hrow.below hb) hbr)
  have HRJ := Lib.hid (fun W (hb : Below w1.heap.size w1 W) => refRight_any (hrow.below hb) hbr)
  have HALL := Lib.hid (fun W (hb : Below w1.heap.size w1 W) => Waits.refAll_any (hrow.below hb) hbr)
  have HRM := Lib.hid (fun W (hb : Below w1.heap.size w1 W) => refMake_any (hrow.below hb) hbr)
  have hmay := fun W => Waits.refMay_any y hys W
  have htw := fun W (hb : Below w1.heap.size w1 W) => refTwice_any (hrow.below hb) hbr.1 y
  have hwi := fun W (hb : Below w1.heap.size w1 W) => refWith_any (hrow.below hb) hbr (by omega) y hys
  have HSM := Lib.hid (fun (u u' : Value) (m : List Ln) W (h : LRow W u m) (h' : LRow W u' m) => (decide_eq_true (rfl : m = m)) ▸ Waits.Same_any h h')
  have HAL := Lib.hid alive_any
  have HPW := Lib.hid (put_ways l y)
  have HRT := Lib.hid (fun (e : Waits.rightB l = true) => allB_t.2 (rightB_t.1 e).1)
  have HPI := Lib.hid (fun (e : Waits.rightB l = true) => makeL_ins (rightB_t.1 e).srt y)
  unfold lv at hpu hmay htw hwi
  have HPU := Lib.hid hpu
  have HMAY := Lib.hid hmay
  have HTW := Lib.hid htw
  have HWI := Lib.hid hwi
  clear hti hrow hbr hys hy18 hbox hbel hpu hmay htw hwi
  have HPZ : Hid (putE l y ≠ 0 → putO l y = []) := Lib.hid (fun h => if_neg h)
  have HMZ : Hid ((Waits.allB l = false → makeE l = 1 ∧ makeO l = []) ∧ (Waits.allB l = true → makeE l = 0 ∧ makeO l = makeL l)) := Lib.hid ⟨fun h => by unfold makeE makeO; rw [h]; exact ⟨rfl, rfl⟩, fun h => by unfold makeE makeO; rw [h]; exact ⟨rfl, rfl⟩⟩
  generalize hmo : makeO l = mo at *
  generalize hme : makeE l = me at *
  generalize hpo : putO l y = po at *
  generalize hpe : putE l y = pe at *
  generalize hln : l.length = ln at *
  have HMO := Lib.hid hmo
  have HME := Lib.hid hme
  have HLN := Lib.hid hln
  have HPO := Lib.hid hpo
  clear hmo hme hpo hpe hln
  go_wp2_with fail
  (with_reducible refine HMK.out.mono ?_)
  rintro e w2 ⟨v2, rfl, hr2, hz⟩
  obtain ⟨a2, n2, c2, rfl⟩ : ∃ a n c, v2 = .slice a n c := (by obtain ⟨a', c', e⟩ := hr2.slice; exact ⟨a', _, c', e⟩)
  have HB2 := Lib.hid hz
  have HR2 := Lib.hid hr2
  have HBX2 := Lib.hid (HBX.out.below hz)
  obtain ⟨x0, x1, x2, x3⟩ := box4 HBX2.out
  have hsx := HBX2.out.1
  clear hz hr2
  go_wp2_with fail
  (with_reducible refine (HPU.out _ HB2.out).mono ?_)
  rintro e w3 ⟨v3, rfl, hr3, hz⟩
  obtain ⟨a3, n3, c3, rfl⟩ : ∃ a n c, v3 = .slice a n c := (by obtain ⟨a', c', e⟩ := hr3.slice; exact ⟨a', _, c', e⟩)
  have HB3 := Lib.hid (below_trans HB2.out hz)
  have HR3 := Lib.hid hr3
  have HR23 := Lib.hid (HR2.out.below hz)
  have HBX3 := Lib.hid (HBX2.out.below hz)
  clear hz hr3 x0 x1 x2 x3 hsx
  go_wp2_with fail
  (with_reducible refine (HRI.out _ HB3.out).mono ?_)
  rintro e w4 ⟨rfl, hz⟩
  have HB4 := Lib.hid (below_trans HB3.out hz)
  have HR24 := Lib.hid (HR23.out.below hz)
  have HR34 := Lib.hid (HR3.out.below hz)
  have HBX4 := Lib.hid (HBX3.out.below hz)
  clear hz
  go_wp2_with fail
  (with_reducible refine (HRJ.out _ HB4.out).mono ?_)
  rintro e w5 ⟨rfl, hz⟩
  have HB5 := Lib.hid (below_trans HB4.out hz)
  have HR25 := Lib.hid (HR24.out.below hz)
  have HR35 := Lib.hid (HR34.out.below hz)
  have HBX5 := Lib.hid (HBX4.out.below hz)
  have hmm : (Waits.rightB l != Waits.rightB l) = false := by simp
  clear hz
  go_wp2_with fail
  (with_reducible refine (HAL.out _).mono ?_)
  rintro e w6 ⟨rfl, hz⟩
  have HB6 := Lib.hid (below_trans HB5.out hz)
  have HR26 := Lib.hid (HR25.out.below hz)
  have HR36 := Lib.hid (HR35.out.below hz)
  have HBX6 := Lib.hid (HBX5.out.below hz)
  clear hz hmm
  go_upto_region 6 with fail
  go_cut [60] from 34 to 60 (fun c wx => c = .bool false ∧ Below w6.heap.size w6 wx)
  case first =>
    cases hall : Waits.allB l with
    | false =>
      obtain ⟨rfl, rfl⟩ := HMZ.out.1 hall
      obtain rfl : n2 = 0 := HR26.out.cap.1
      have HA := Lib.hid (fun W hb => hall ▸ HALL.out W hb)
      clear hall
      go_wp2_with fail
      (with_reducible refine (HA.out _ HB6.out).mono ?_)
      rintro e w7 ⟨rfl, hz⟩
      have HC7 := Lib.hid hz
      clear hz
      go_wp2_with fail
      (with_reducible refine (HA.out _ (below_trans HB6.out HC7.out)).mono ?_)
      rintro e w8 ⟨rfl, hz⟩
      have HC8 := Lib.hid (below_trans HC7.out hz)
      clear hz
      go_wp2_with fail
      go_meet
      exact ⟨rfl, HC8.out⟩
    | true =>
      obtain ⟨rfl, rfl⟩ := HMZ.out.2 hall
      have HA := Lib.hid (fun W hb => hall ▸ HALL.out W hb)
      clear hall
      go_wp2_with fail
      (with_reducible refine (HA.out _ HB6.out).mono ?_)
      rintro e w7 ⟨rfl, hz⟩
      have HC7 := Lib.hid hz
      clear hz
      go_wp2_with fail
      (with_reducible refine (HA.out _ (below_trans HB6.out HC7.out)).mono ?_)
      rintro e w8 ⟨rfl, hz⟩
      have HC8 := Lib.hid (below_trans HC7.out hz)
      clear hz
      go_wp2_with fail
      (with_reducible refine (HRM.out _ (below_trans HB6.out HC8.out)).mono ?_)
      rintro e w9 ⟨v9, rfl, hr9, hz⟩
      obtain ⟨a9, n9, c9, rfl⟩ : ∃ a n c, v9 = .slice a n c := (by obtain ⟨a', c', e⟩ := hr9.slice; exact ⟨a', _, c', e⟩)
      have HC9 := Lib.hid (below_trans HC8.out hz)
      have HSS := Lib.hid (HSM.out _ _ _ _ (HR26.out.below HC9.out) hr9)
      clear hz hr9
      go_wp2_with fail
      (with_reducible refine HSS.out.mono ?_)
      rintro e w10 ⟨rfl, hz⟩
      have HC10 := Lib.hid (below_trans HC9.out hz)
      clear hz
      go_wp2_with fail
      go_meet
      exact ⟨rfl, HC10.out⟩
  case rest =>
  obtain ⟨rfl, hb7⟩ := hcut
  clear HMK HPU HRI HRM HALL HMZ HME HMO HR2 HR23 HR24 HR25 HR26 HBX2 HBX3 HBX4 HBX5 HR3 HR34 HR35
  rename World => w7
  have HB7 := Lib.hid (below_trans HB6.out hb7)
  have HR37 := Lib.hid (HR36.out.below hb7)
  have HBX7 := Lib.hid (HBX6.out.below hb7)
  clear hb7 HR36 HBX6
  rcases HPW.out with ⟨e1, rfl⟩ | ⟨e1, e2, rfl⟩ | ⟨e1, e2, e3, rfl⟩ | ⟨e1, e2, e3, e4, rfl⟩ | ⟨e1, e2, e3, e4, rfl, e6⟩
  · obtain rfl := HPZ.out (by decide)
    obtain rfl : n3 = 0 := HR37.out.cap.1
    have HJ := Lib.hid (fun W hb => e1 ▸ HRJ.out W hb)
    clear e1
    go_wp2_with fail
    (with_reducible refine (HJ.out _ HB7.out).mono ?_)
    rintro e w8 ⟨rfl, hz⟩
    have HB8 := Lib.hid (below_trans HB7.out hz)
    clear hz
    go_wp2_with fail
    go_ret
    exact ⟨rfl, below_trans HB.out HB8.out⟩
  · obtain rfl := HPZ.out (by decide)
    obtain rfl : n3 = 0 := HR37.out.cap.1
    have HJ := Lib.hid (fun W hb => e1 ▸ HRJ.out W hb)
    have HM := Lib.hid (fun W => e2 ▸ HMAY.out W)
    clear e1 e2
    go_wp2_with fail
    (with_reducible refine (HJ.out _ HB7.out).mono ?_)
    rintro e w8 ⟨rfl, hz⟩
    have HB8 := Lib.hid (below_trans HB7.out hz)
    obtain ⟨x0, x1, x2, x3⟩ := box4 (HBX7.out.below hz)
    have hsx := (HBX7.out.below hz).1
    clear hz
    go_wp2_with fail
    (with_reducible refine (HM.out _).mono ?_)
    rintro e w9 ⟨rfl, hz⟩
    have HB9 := Lib.hid (below_trans HB8.out hz)
    clear hz
    go_wp2_with fail
    go_ret
    exact ⟨rfl, below_trans HB.out HB9.out⟩
  · obtain rfl := HPZ.out (by decide)
    obtain rfl : n3 = 0 := HR37.out.cap.1
    have HJ := Lib.hid (fun W hb => e1 ▸ HRJ.out W hb)
    have HM := Lib.hid (fun W => e2 ▸ HMAY.out W)
    have HT := Lib.hid (fun W hb => e3 ▸ HTW.out W hb)
    clear e1 e2 e3
    go_wp2_with fail
    (with_reducible refine (HJ.out _ HB7.out).mono ?_)
    rintro e w8 ⟨rfl, hz⟩
    have HB8 := Lib.hid (below_trans HB7.out hz)
    have HR38 := Lib.hid (HR37.out.below hz)
    have HBX8 := Lib.hid (HBX7.out.below hz)
    obtain ⟨x0, x1, x2, x3⟩ := box4 HBX8.out
    have hsx := HBX8.out.1
    clear hz
    go_wp2_with fail
    (with_reducible refine (HM.out _).mono ?_)
    rintro e w9 ⟨rfl, hz⟩
    have HB9 := Lib.hid (below_trans HB8.out hz)
    have HR39 := Lib.hid (HR38.out.below hz)
    have HBX9 := Lib.hid (HBX8.out.below hz)
    clear x0 x1 x2 x3 hsx
    obtain ⟨x0, x1, x2, x3⟩ := box4 HBX9.out
    have hsx := HBX9.out.1
    clear hz
    go_wp2_with fail
    (with_reducible refine (HT.out _ HB9.out).mono ?_)
    rintro e w10 ⟨rfl, hz⟩
    have HB10 := Lib.hid (below_trans HB9.out hz)
    have HR310 := Lib.hid (HR39.out.below hz)
    have HBX10 := Lib.hid (HBX9.out.below hz)
    clear x0 x1 x2 x3 hsx
    obtain ⟨x0, x1, x2, x3⟩ := box4 HBX10.out
    have hsx := HBX10.out.1
    clear hz
    go_wp2_with fail
    go_ret
    exact ⟨rfl, below_trans HB.out HB10.out⟩
  · obtain rfl := HPZ.out (by decide)
    obtain rfl : n3 = 0 := HR37.out.cap.1
    have HJ := Lib.hid (fun W hb => e1 ▸ HRJ.out W hb)
    have HM := Lib.hid (fun W => e2 ▸ HMAY.out W)
    have HT := Lib.hid (fun W hb => e3 ▸ HTW.out W hb)
    obtain rfl : ln = 32 := e4
    clear e1 e2 e3
    go_wp2_with fail
    (with_reducible refine (HJ.out _ HB7.out).mono ?_)
    rintro e w8 ⟨rfl, hz⟩
    have HB8 := Lib.hid (below_trans HB7.out hz)
    have HR38 := Lib.hid (HR37.out.below hz)
    have HBX8 := Lib.hid (HBX7.out.below hz)
    obtain ⟨x0, x1, x2, x3⟩ := box4 HBX8.out
    have hsx := HBX8.out.1
    clear hz
    go_wp2_with fail
    (with_reducible refine (HM.out _).mono ?_)
    rintro e w9 ⟨rfl, hz⟩
    have HB9 := Lib.hid (below_trans HB8.out hz)
    have HR39 := Lib.hid (HR38.out.below hz)
    have HBX9 := Lib.hid (HBX8.out.below hz)
    clear x0 x1 x2 x3 hsx
    obtain ⟨x0, x1, x2, x3⟩ := box4 HBX9.out
    have hsx := HBX9.out.1
    clear hz
    go_wp2_with fail
    (with_reducible refine (HT.out _ HB9.out).mono ?_)
    rintro e w10 ⟨rfl, hz⟩
    have HB10 := Lib.hid (below_trans HB9.out hz)
    have HR310 := Lib.hid (HR39.out.below hz)
    have HBX10 := Lib.hid (HBX9.out.below hz)
    clear x0 x1 x2 x3 hsx
    obtain ⟨x0, x1, x2, x3⟩ := box4 HBX10.out
    have hsx := HBX10.out.1
    clear hz
    go_wp2_with fail
    go_ret
    exact ⟨rfl, below_trans HB.out HB10.out⟩
  · have hpi := HPI.out e1
    rw [← e6] at hpi
    have HW := Lib.hid (fun W hb => hpi ▸ HWI.out W hb)
    have e4' : ¬ (ln : Int) = 32 := by omega
    have e4'' : ((ln : Int) == 32) = false := by simpa using e4'
    have HJ := Lib.hid (fun W hb => e1 ▸ HRJ.out W hb)
    have HM := Lib.hid (fun W => e2 ▸ HMAY.out W)
    have HT := Lib.hid (fun W hb => e3 ▸ HTW.out W hb)
    clear e1 e2 e3 e4 e6 e4' hpi
    go_wp2_with fail
    (with_reducible refine (HJ.out _ HB7.out).mono ?_)
    rintro e w8 ⟨rfl, hz⟩
    have HB8 := Lib.hid (below_trans HB7.out hz)
    have HR38 := Lib.hid (HR37.out.below hz)
    have HBX8 := Lib.hid (HBX7.out.below hz)
    obtain ⟨x0, x1, x2, x3⟩ := box4 HBX8.out
    have hsx := HBX8.out.1
    clear hz
    go_wp2_with fail
    (with_reducible refine (HM.out _).mono ?_)
    rintro e w9 ⟨rfl, hz⟩
    have HB9 := Lib.hid (below_trans HB8.out hz)
    have HR39 := Lib.hid (HR38.out.below hz)
    have HBX9 := Lib.hid (HBX8.out.below hz)
    clear x0 x1 x2 x3 hsx
    obtain ⟨x0, x1, x2, x3⟩ := box4 HBX9.out
    have hsx := HBX9.out.1
    clear hz
    go_wp2_with fail
    (with_reducible refine (HT.out _ HB9.out).mono ?_)
    rintro e w10 ⟨rfl, hz⟩
    have HB10 := Lib.hid (below_trans HB9.out hz)
    have HR310 := Lib.hid (HR39.out.below hz)
    have HBX10 := Lib.hid (HBX9.out.below hz)
    clear x0 x1 x2 x3 hsx
    obtain ⟨x0, x1, x2, x3⟩ := box4 HBX10.out
    have hsx := HBX10.out.1
    clear hz
    go_wp2_with fail
    (with_reducible refine (HW.out _ HB10.out).mono ?_)
    rintro e w11 ⟨v11, rfl, hr11, hz⟩
    obtain ⟨a11, n11, c11, rfl⟩ : ∃ a n c, v11 = .slice a n c := (by obtain ⟨a', c', e⟩ := hr11.slice; exact ⟨a', _, c', e⟩)
    have HB11 := Lib.hid (below_trans HB10.out hz)
    have HSS := Lib.hid (HSM.out _ _ _ _ (HR310.out.below hz) hr11)
    clear hz hr11 x0 x1 x2 x3 hsx
    go_wp2_with fail
    (with_reducible refine HSS.out.mono ?_)
    rintro e w12 ⟨rfl, hz⟩
    have HB12 := Lib.hid (below_trans HB11.out hz)
    clear hz
    go_wp2_with fail
    go_ret
    exact ⟨rfl, below_trans HB.out HB12.out⟩

set_option maxRecDepth 100000 in
set_option maxHeartbeats 4000000 in
theorem lifted (os : Os) (started : os.Started) (H : Type) (enc : TypeId × Value → H) :
    ReturnsInHanded {} Try.checked os 3 .any (Rows.waitsStandSpec.pre6 enc Try.prog Try.f3 Rows.waitsStandRow.domain false) (Rows.waitsStandSpec.post enc Try.prog Try.f3 false true false false) := by
  refine returnsInHanded_of_change (C := Try.checked) own started (by kernel_rfl) Try.func3
    (ChangeSpec.witness6 (enc := enc) (C := Try.checked) false ⟨#[], #[.slice none 0 0, .agg #[.string ByteArray.empty, .int .i64 0, .int .i64 0, .int .i64 0]], []⟩ 8 (by kernel_rfl) (by kernel_rfl) (by kernel_rfl) (by kernel_rfl)) ?_
  intro W base args ds gs before hval0 hW hcnd _
  have hval : ∀ (j : Nat) t v, Try.f3.params[j]? = some t → args[j]? = some v → Value.okWide Try.prog W .any base t v := hval0
  have hW' := hW
  obtain ⟨p, q, hA0, hV, rfl, hfz, hnd⟩ := hW
  have hA : DataW.TrodAll enc Try.prog W 0 (fun _ => true) true Try.f3.params.toList args.toList ds p := hA0
  rw [Try.params3] at hA hval
  obtain ⟨v0, vs0, d0, ds0, p0, q0, hargs, rfl, rfl, h0, r0⟩ := trodAll_cons hA
  obtain ⟨v1, vs1, d1, ds1, p1, q1, rfl, rfl, rfl, h1, r1⟩ := trodAll_cons r0
  obtain ⟨rfl, rfl, rfl⟩ := trodAll_nil r1
  obtain rfl : args = #[v0, v1] := by cases args; simp_all
  obtain ⟨rfl, rfl⟩ := trodVars_none hV
  have k0 := h0
  have lt0 : ∀ x ∈ p0, x.block < W.heap.size := by obtain ⟨m, hm⟩ := k0; exact DataW.trod_lt m _ _ _ hm
  obtain ⟨fuel0, hf0⟩ := h0
  obtain ⟨aa0, ll0, cc0, rfl⟩ := okWide_slice Try.underlying22 (hval 0 22 v0 rfl rfl)
  have w0 := argL_of (v := .slice aa0 ll0 cc0) hf0
  have k1 := h1
  have lt1 : ∀ x ∈ p1, x.block < W.heap.size := by obtain ⟨m, hm⟩ := k1; exact DataW.trod_lt m _ _ _ hm
  obtain ⟨fuel1, hf1⟩ := h1
  obtain ⟨x1, rfl, w1⟩ := open_line (hval 1 26 v1 rfl rfl) hf1
  clear hA0 hval0
  refine (walk0 (.slice aa0 ll0 cc0) x1 w1 W w0).mono fun e W' ⟨he, bel⟩ => ?_
  subst he
  exact ⟨_, rfl, _, _, _, [], _, [], hW', trodAll_mk1 (shut_bool Try.underlying4 _), (trodAll_cons_mk (Below.trod laidOut (by kernel_rfl) (of_decide_eq_true (by kernel_rfl)) k0 bel lt0) (trodAll_cons_mk (Below.trod laidOut (by kernel_rfl) (of_decide_eq_true (by kernel_rfl)) k1 bel lt1) trodAll_mk0)), rfl, bel.frame _, fun h => by cases h⟩

theorem over : Rows.waitsStandRow.holds Try.pinned (OpenSpec.ofChange Rows.waitsStandSpec) :=
  OpenClaim.holds_of_wide 3 Try.f3 rfl rfl rfl rfl rfl rfl rfl ⟨rfl, rfl, rfl, rfl, rfl⟩ rfl rfl rfl rfl rfl (by kernel_rfl) Try.func3 (by kernel_rfl)
    (of_decide_eq_true (by kernel_rfl)) (by unfold Func.isWrapper; first | (rw [if_pos (by decide +kernel)]; kernel_rfl) | (rw [if_neg (by decide +kernel)]; exact ⟨rfl, rfl⟩))
    (fun os started H enc _ => lifted os started H enc)

theorem proved : Rows.WaitsStandSaid := over
#print axioms proved
end Go.Proofs.Ytcehhgcfkoldfaa.waitsStand
