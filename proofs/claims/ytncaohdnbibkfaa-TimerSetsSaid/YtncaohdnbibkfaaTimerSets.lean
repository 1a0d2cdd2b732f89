/-
  Proved: for any timers, one more, and any kind, order and time the law TimerSets returns true: which timers may be, and what setting one, clearing, and a time makes of any, is as the reference says, or refused. No condition.
-/
import Derived.Test.YtncaohdnbibkfaaRows
import Derived.Test.YtncaohdnbibkfaaTFew
namespace Go.Proofs.Ytncaohdnbibkfaa.timerSets
open Go.ChangeShapes Go.WideShapes Go.ChangeAt Go.RowKit Go.Lib Go.Proofs.Ytncaohdnbibkfaa.Timer
open Go.Proofs.Ytncaohdnbibkfaa.Queue
set_option linter.unusedVariables false

theorem own : ownKnob Try.prog.godebug = none := by kernel_rfl
theorem laidOut : laidOutB Try.prog = true := by kernel_rfl

/-- What the calls answer of timers that may not be. -/
theorem all_no {l : List Wt} (x : Wt) (k o t : Int) (h : rightB l = false) : setE x l = 1 ∧ setO x l = [] ∧ clearE l = 1 ∧ clearO k o l = [] ∧ dueO t l = [] ∧ restO t l = [] ∧ nextN l = 0 ∧ nextE l = 1 := by
  have hn : ¬ rightB l = true := by rw [h]; simp
  have hs : setE x l = 1 ∧ setO x l = [] := by
    rcases set_ways x l with ⟨_, e1, e2⟩ | ⟨e, _⟩ | ⟨e, _⟩ | ⟨e, _⟩
    · exact ⟨e1, e2⟩
    all_goals exact absurd e hn
  exact ⟨hs.1, hs.2, if_neg hn, if_neg hn, if_neg hn, if_neg hn, if_neg hn, if_neg hn⟩
theorem all_yes {l : List Wt} (k o t : Int) (h : rightB l = true) : clearE l = 0 ∧ clearO k o l = clearL k o l ∧ dueO t l = dueL t l ∧ restO t l = restL t l := ⟨if_pos h, if_pos h, if_pos h, if_pos h⟩
/-- The next one is the first one's, if there is one. -/
theorem next_is {l : List Wt} (h : rightB l = true) : (l.length = 0 ∧ nextN l = 0 ∧ nextE l = 8) ∨ (0 < l.length ∧ nextE l = 0 ∧ ∀ W a c, QRow W (.slice a l.length c) l → ∃ b off, a = some ⟨b, off, none⟩ ∧ b < W.heap.size ∧ W.cell? ⟨b, off, none⟩ = some (.int .i64 (nextN l))) := by
  unfold nextN nextE
  rw [if_pos h, if_pos h]
  cases l with
  | nil => exact .inl ⟨rfl, rfl, rfl⟩
  | cons y r =>
    refine .inr ⟨by simp, rfl, fun W a c hq => ?_⟩
    obtain ⟨b, off, e, _, _, hb, k0, _⟩ := hq.at (q := 0) (by simp)
    exact ⟨b, off, e, hb, by simpa using k0⟩

set_option maxRecDepth 100000 in
set_option maxHeartbeats 8000000 in
theorem walk0 (v : Value) (x : Wt) (kd : Int) (_k1 : -9223372036854775808 ≤ kd) (_k2 : kd ≤ 9223372036854775807) (od : Int) (_o1 : -9223372036854775808 ≤ od) (_o2 : od ≤ 9223372036854775807) (t : Int) (_t1 : -9223372036854775808 ≤ t) (_t2 : t ≤ 9223372036854775807) (w : World) (hv : ArgT w v) :
    Calls Try.prog 3 #[v, wv x, .int .i64 kd, .int .i64 od, .int .i64 t] w (BoolB true w) := by
  obtain ⟨l0, hr0⟩ := hv
  have hb0 := al w (.cells #[.int .i64 x.c, .int .i64 x.s, .int .i64 x.o] 24)
  have hx0 := Box.made w (tcs x) 24
  obtain ⟨W0, hW0⟩ : ∃ W, w.alloc (.cells #[.int .i64 x.c, .int .i64 x.s, .int .i64 x.o] 24) = W := ⟨_, rfl⟩
  have HB0 : Hid (Below w.heap.size w W0) := Lib.hid (hW0 ▸ hb0)
  have HX0 : Hid (Box w.heap.size (tcs x) W0) := Lib.hid (hW0 ▸ hx0)
  have HFE := Lib.hid (few_any (hr0.below HB0.out))
  have hl0 : (l0.take 98).length ≤ 1000 := by rw [List.length_take]; omega
  have HCA : Hid (∀ W, Below W0.heap.size W0 W → (W.cell? ⟨w.heap.size, 0, none⟩ = some (.int .i64 x.c) ∧ W.cell? ⟨w.heap.size, 1, none⟩ = some (.int .i64 x.s) ∧ W.cell? ⟨w.heap.size, 2, none⟩ = some (.int .i64 x.o)) ∧ w.heap.size < W.heap.size) := Lib.hid (fun W hb => ⟨c3' (HX0.out.below hb), (HX0.out.below hb).1⟩)
  have HAL := Lib.hid alive_any
  obtain ⟨a0, cap, rfl⟩ := hr0.slice
  generalize l0.length = n0 at *
  generalize l0.take 98 = l at *
  unfold wv
  clear hr0 hb0 hx0 _k1 _k2 _o1 _o2 _t1 _t2
  go_enter Try.func3, Try.ntmps3
  go_upto_region 1 with (fail)
  clear hW0
  go_wp2_with fail
  (with_reducible refine HFE.out.mono ?_)
  rintro e w1 ⟨v1, rfl, hr1, hz⟩
  obtain ⟨a1, c1, rfl⟩ := hr1.slice
  have HB1 := Lib.hid hz
  have HR1 := Lib.hid hr1
  have HSA := Lib.hid (Set_any hr1 hl0 x)
  have HCC := Lib.hid (fun W (hb : Below w1.heap.size w1 W) => Clear_any (HR1.out.below hb) hl0 kd od)
  have HDD := Lib.hid (fun W (hb : Below w1.heap.size w1 W) => Due_any (HR1.out.below hb) hl0 t)
  have HNN := Lib.hid (fun W (hb : Below w1.heap.size w1 W) => Next_any (HR1.out.below hb) hl0)
  have HRR := Lib.hid (fun W (hb : Below w1.heap.size w1 W) => Right_any (HR1.out.below hb) hl0)
  have HRF := Lib.hid (fun W (hb : Below w1.heap.size w1 W) => refRight_any (HR1.out.below hb) hl0)
  have HCF := Lib.hid (fun W k o (hb : Below w1.heap.size w1 W) => refClear_any (HR1.out.below hb) hl0 k o)
  have HDF := Lib.hid (fun W d (hb : Below w1.heap.size w1 W) => refDue_any (HR1.out.below hb) hl0 t d)
  have HSF := Lib.hid (fun W (hb : Below w1.heap.size w1 W) => refSet_any (HR1.out.below hb) hl0 x)
  have HMF := Lib.hid (fun W => refMay_any x W)
  unfold wv at HSA HSF HMF
  obtain ⟨⟨p0, p1, p2⟩, p3⟩ := HCA.out _ HB1.out
  clear hr1 hz HFE
  have HNO := Lib.hid (fun (h : rightB l = false) => all_no x kd od t h)
  have HYE := Lib.hid (fun (h : rightB l = true) => all_yes (l := l) kd od t h)
  have HNI := Lib.hid (fun (h : rightB l = true) => next_is h)
  have HWS := Lib.hid (set_ways x l)
  obtain ⟨se, hse⟩ : ∃ z, setE x l = z := ⟨_, rfl⟩
  obtain ⟨so, hso⟩ : ∃ z, setO x l = z := ⟨_, rfl⟩
  obtain ⟨ce, hce⟩ : ∃ z, clearE l = z := ⟨_, rfl⟩
  obtain ⟨co, hco⟩ : ∃ z, clearO kd od l = z := ⟨_, rfl⟩
  obtain ⟨du, hdu⟩ : ∃ z, dueO t l = z := ⟨_, rfl⟩
  obtain ⟨re, hre⟩ : ∃ z, restO t l = z := ⟨_, rfl⟩
  obtain ⟨nn, hnn⟩ : ∃ z, nextN l = z := ⟨_, rfl⟩
  obtain ⟨ne, hne⟩ : ∃ z, nextE l = z := ⟨_, rfl⟩
  rw [hse, hso] at HSA HNO HWS
  simp only [hce, hco] at HCC
  simp only [hce, hdu, hre] at HDD
  simp only [hnn, hne] at HNN HNI
  simp only [hce, hco, hdu, hre, hnn, hne] at HNO HYE
  clear hse hso hce hco hdu hre hnn hne
  go_wp2_with fail
  (with_reducible refine HSA.out.mono ?_)
  rintro e w2 ⟨v2, rfl, hr2, hz⟩
  obtain ⟨a2, c2, rfl⟩ := hr2.slice
  have HD2 := Lib.hid hz
  have HR2 := Lib.hid hr2
  clear hr2 hz HSA p0 p1 p2 p3
  go_wp2_with fail
  (with_reducible refine (HCC.out _ HD2.out).mono ?_)
  rintro e w3 ⟨v3, rfl, hr3, hz⟩
  obtain ⟨a3, c3, rfl⟩ := hr3.slice
  have HD3 := Lib.hid (below_trans HD2.out hz)
  have HR2 := Lib.hid (HR2.out.below hz)
  have HR3 := Lib.hid hr3
  clear hr3 hz HCC
  go_wp2_with fail
  (with_reducible refine (HDD.out _ HD3.out).mono ?_)
  rintro e w4 ⟨v4, v5, rfl, hr4, hr5, hz⟩
  obtain ⟨a4, c4, rfl⟩ := hr4.slice
  obtain ⟨a5, c5, rfl⟩ := hr5.slice
  have HD4 := Lib.hid (below_trans HD3.out hz)
  have HR2 := Lib.hid (HR2.out.below hz)
  have HR3 := Lib.hid (HR3.out.below hz)
  have HR4 := Lib.hid hr4
  have HR5 := Lib.hid hr5
  clear hr4 hr5 hz HDD
  go_wp2_with fail
  (with_reducible refine (HNN.out _ HD4.out).mono ?_)
  rintro e w5 ⟨rfl, hz⟩
  have HE5 := Lib.hid hz
  have HD5 := Lib.hid (below_trans HD4.out hz)
  clear hz HNN
  go_wp2_with fail
  (with_reducible refine (HRR.out _ HD5.out).mono ?_)
  rintro e w6 ⟨rfl, hz⟩
  have HE6 := Lib.hid (below_trans HE5.out hz)
  have HD6 := Lib.hid (below_trans HD5.out hz)
  clear hz HRR
  go_wp2_with fail
  (with_reducible refine (HRF.out _ HD6.out).mono ?_)
  rintro e w7 ⟨rfl, hz⟩
  have HE7 := Lib.hid (below_trans HE6.out hz)
  have HD7 := Lib.hid (below_trans HD6.out hz)
  clear hz
  have hrb : (rightB l != rightB l) = false := by simp
  obtain ⟨rb, hrbe⟩ : ∃ z, rightB l = z := ⟨_, rfl⟩
  rw [hrbe] at HNO HYE HNI HWS HRF hrb ⊢
  clear hrbe
  go_wp2_with fail
  (with_reducible refine (HAL.out _).mono ?_)
  rintro e w8 ⟨rfl, hz⟩
  have HE8 := Lib.hid (below_trans HE7.out hz)
  have HD8 := Lib.hid (below_trans HD7.out hz)
  clear hz hrb HE7 HE6
  cases rb with
  | false =>
    obtain ⟨rfl, rfl, rfl, rfl, rfl, rfl, rfl, rfl⟩ := HNO.out rfl
    simp only [List.length_nil]
    clear HYE HNI HWS HCF HDF HSF HMF HNO
    go_wp2_with fail
    (with_reducible refine (HRF.out _ HD8.out).mono ?_)
    rintro e w9 ⟨rfl, hz⟩
    have HZ := Lib.hid (below_trans HB0.out (below_trans HB1.out (below_trans HD8.out hz)))
    clear hz HRF
    go_wp2_with fail
    go_ret
    exact ⟨rfl, HZ.out⟩
  | true =>
    obtain ⟨rfl, rfl, rfl, rfl⟩ := HYE.out rfl
    have HCK := Lib.hid (fun W hb => HCF.out W kd od hb)
    have HCX := Lib.hid (fun W hb => HCF.out W x.s x.o hb)
    have HDT := Lib.hid (fun W hb => HDF.out W true hb)
    have HDO := Lib.hid (fun W hb => HDF.out W false hb)
    simp only [dueB_t, dueB_f] at HDT HDO
    clear HYE HNO HCF HDF
    go_wp2_with fail
    (with_reducible refine (HRF.out _ HD8.out).mono ?_)
    rintro e w9 ⟨rfl, hz⟩
    have HE9 := Lib.hid (below_trans HE8.out hz)
    have HD9 := Lib.hid (below_trans HD8.out hz)
    clear hz HRF
    go_wp2_with fail
    (with_reducible refine (HCK.out _ HD9.out).mono ?_)
    rintro e w10 ⟨v10, rfl, ho, hz⟩
    have hq := Same_yes (HR3.out.below (below_trans HE9.out hz)) ho.row
    obtain ⟨a10, c10, rfl⟩ := ho.row.slice
    generalize clearL kd od l = C at *
    have HQ := Lib.hid hq
    have HE10 := Lib.hid (below_trans HE9.out hz)
    have HD10 := Lib.hid (below_trans HD9.out hz)
    clear hz hq ho HCK
    go_wp2_with fail
    (with_reducible refine HQ.out.mono ?_)
    rintro e w11 ⟨rfl, hz⟩
    have HE11 := Lib.hid (below_trans HE10.out hz)
    have HD11 := Lib.hid (below_trans HD10.out hz)
    clear hz HQ HR3
    go_wp2_with fail
    (with_reducible refine (HDT.out _ HD11.out).mono ?_)
    rintro e w12 ⟨v12, rfl, ho, hz⟩
    have hq := Same_yes (HR4.out.below (below_trans HE11.out hz)) ho.row
    obtain ⟨a12, c12, rfl⟩ := ho.row.slice
    generalize dueL t l = D at *
    have HQ := Lib.hid hq
    have HE12 := Lib.hid (below_trans HE11.out hz)
    have HD12 := Lib.hid (below_trans HD11.out hz)
    clear hz hq ho HDT
    go_wp2_with fail
    (with_reducible refine HQ.out.mono ?_)
    rintro e w13 ⟨rfl, hz⟩
    have HE13 := Lib.hid (below_trans HE12.out hz)
    have HD13 := Lib.hid (below_trans HD12.out hz)
    clear hz HQ HR4
    go_wp2_with fail
    (with_reducible refine (HDO.out _ HD13.out).mono ?_)
    rintro e w14 ⟨v14, rfl, ho, hz⟩
    have hq := Same_yes (HR5.out.below (below_trans HE13.out hz)) ho.row
    obtain ⟨a14, c14, rfl⟩ := ho.row.slice
    generalize restL t l = R at *
    have HQ := Lib.hid hq
    have HE14 := Lib.hid (below_trans HE13.out hz)
    have HD14 := Lib.hid (below_trans HD13.out hz)
    clear hz hq ho HDO
    go_wp2_with fail
    (with_reducible refine HQ.out.mono ?_)
    rintro e w15 ⟨rfl, hz⟩
    have HR2 := Lib.hid (HR2.out.below (below_trans HE14.out hz))
    have HD15 := Lib.hid (below_trans HD14.out hz)
    clear hz HQ HR5 HE5 HE8 HE9 HE10 HE11 HE12 HE13 HE14
    obtain ⟨⟨p0, p1, p2⟩, p3⟩ := HCA.out _ (below_trans HB1.out HD15.out)
    have hni := HNI.out (by first | rfl | trivial)
    clear HNI
    rcases hni with ⟨h1, rfl, rfl⟩ | ⟨h1, rfl, h3⟩
    · have hq1 : ((l.length : Int) == 0) = true := by rw [h1]; rfl
      have hq2 : ¬ ((0 : Int) < l.length) := by omega
      clear h1
      go_upto_region 14 with (fail)
      clear hq1 hq2
      rcases HWS.out with ⟨e, _⟩ | ⟨_, hm, rfl, rfl⟩ | ⟨_, hm, hlen, rfl, rfl⟩ | ⟨_, hm, hlen, rfl, rfl⟩
      · cases e
      · rw [hm] at HMF
        simp only [List.length_nil]
        clear hm HWS HSF HCX
        go_wp2_with fail
        (with_reducible refine (HMF.out _).mono ?_)
        rintro e w16 ⟨rfl, hz⟩
        have HZ := Lib.hid (below_trans HB0.out (below_trans HB1.out (below_trans HD15.out hz)))
        clear hz HMF
        go_wp2_with fail
        go_ret
        exact ⟨rfl, HZ.out⟩
      · rw [hm] at HMF
        simp only [List.length_nil]
        clear hm HWS HSF
        go_wp2_with fail
        (with_reducible refine (HMF.out _).mono ?_)
        rintro e w16 ⟨rfl, hz⟩
        have HD16 := Lib.hid (below_trans HD15.out hz)
        clear hz HMF p0 p1 p2 p3
        obtain ⟨⟨p0, p1, p2⟩, p3⟩ := HCA.out _ (below_trans HB1.out HD16.out)
        go_wp2_with fail
        (with_reducible refine (HCX.out _ HD16.out).mono ?_)
        rintro e w17 ⟨v17, rfl, ho, hz⟩
        obtain ⟨a17, c17, rfl⟩ := ho.row.slice
        have HZ := Lib.hid (below_trans HB0.out (below_trans HB1.out (below_trans HD16.out hz)))
        rw [hlen]
        clear hz HCX ho hlen p0 p1 p2 p3
        go_wp2_with fail
        go_ret
        exact ⟨rfl, HZ.out⟩
      · rw [hm] at HMF
        clear hm HWS
        go_wp2_with fail
        (with_reducible refine (HMF.out _).mono ?_)
        rintro e w16 ⟨rfl, hz⟩
        have HE16 := Lib.hid hz
        have HD16 := Lib.hid (below_trans HD15.out hz)
        clear hz HMF p0 p1 p2 p3
        obtain ⟨⟨p0, p1, p2⟩, p3⟩ := HCA.out _ (below_trans HB1.out HD16.out)
        go_wp2_with fail
        (with_reducible refine (HCX.out _ HD16.out).mono ?_)
        rintro e w17 ⟨v17, rfl, ho, hz⟩
        obtain ⟨a17, c17, rfl⟩ := ho.row.slice
        have HE17 := Lib.hid (below_trans HE16.out hz)
        have HD17 := Lib.hid (below_trans HD16.out hz)
        have hne96 : (((clearL x.s x.o l).length : Int) == 96) = false := by simpa using (by omega : ¬ ((clearL x.s x.o l).length : Int) = 96)
        generalize (clearL x.s x.o l).length = nl at *
        clear hz HCX ho hlen p0 p1 p2 p3
        obtain ⟨⟨p0, p1, p2⟩, p3⟩ := HCA.out _ (below_trans HB1.out HD17.out)
        go_wp2_with fail
        (with_reducible refine (HSF.out _ HD17.out).mono ?_)
        rintro e w18 ⟨v18, rfl, hr18, hz⟩
        have hq := Same_yes (HR2.out.below (below_trans HE17.out hz)) hr18
        obtain ⟨a18, c18, rfl⟩ := hr18.slice
        have HQ := Lib.hid hq
        have HD18 := Lib.hid (below_trans HD17.out hz)
        clear hz HSF hr18 hq p0 p1 p2 p3
        go_wp2_with fail
        (with_reducible refine HQ.out.mono ?_)
        rintro e w19 ⟨rfl, hz⟩
        have HZ := Lib.hid (below_trans HB0.out (below_trans HB1.out (below_trans HD18.out hz)))
        clear hz HQ
        go_wp2_with fail
        go_ret
        exact ⟨rfl, HZ.out⟩
    · have hq1 : ((l.length : Int) == 0) = false := by simpa using (by omega : ¬ (l.length : Int) = 0)
      have hq2 : (0 : Int) < l.length := by omega
      obtain ⟨b, off, rfl, hb, k0⟩ := h3 w15 a1 c1 (HR1.out.below HD15.out)
      clear h1 h3
      go_upto_region 14 with (fail)
      clear hq1 hq2 hb k0
      rcases HWS.out with ⟨e, _⟩ | ⟨_, hm, rfl, rfl⟩ | ⟨_, hm, hlen, rfl, rfl⟩ | ⟨_, hm, hlen, rfl, rfl⟩
      · cases e
      · rw [hm] at HMF
        simp only [List.length_nil]
        clear hm HWS HSF HCX
        go_wp2_with fail
        (with_reducible refine (HMF.out _).mono ?_)
        rintro e w16 ⟨rfl, hz⟩
        have HZ := Lib.hid (below_trans HB0.out (below_trans HB1.out (below_trans HD15.out hz)))
        clear hz HMF
        go_wp2_with fail
        go_ret
        exact ⟨rfl, HZ.out⟩
      · rw [hm] at HMF
        simp only [List.length_nil]
        clear hm HWS HSF
        go_wp2_with fail
        (with_reducible refine (HMF.out _).mono ?_)
        rintro e w16 ⟨rfl, hz⟩
        have HD16 := Lib.hid (below_trans HD15.out hz)
        clear hz HMF p0 p1 p2 p3
        obtain ⟨⟨p0, p1, p2⟩, p3⟩ := HCA.out _ (below_trans HB1.out HD16.out)
        go_wp2_with fail
        (with_reducible refine (HCX.out _ HD16.out).mono ?_)
        rintro e w17 ⟨v17, rfl, ho, hz⟩
        obtain ⟨a17, c17, rfl⟩ := ho.row.slice
        have HZ := Lib.hid (below_trans HB0.out (below_trans HB1.out (below_trans HD16.out hz)))
        rw [hlen]
        clear hz HCX ho hlen p0 p1 p2 p3
        go_wp2_with fail
        go_ret
        exact ⟨rfl, HZ.out⟩
      · rw [hm] at HMF
        clear hm HWS
        go_wp2_with fail
        (with_reducible refine (HMF.out _).mono ?_)
        rintro e w16 ⟨rfl, hz⟩
        have HE16 := Lib.hid hz
        have HD16 := Lib.hid (below_trans HD15.out hz)
        clear hz HMF p0 p1 p2 p3
        obtain ⟨⟨p0, p1, p2⟩, p3⟩ := HCA.out _ (below_trans HB1.out HD16.out)
        go_wp2_with fail
        (with_reducible refine (HCX.out _ HD16.out).mono ?_)
        rintro e w17 ⟨v17, rfl, ho, hz⟩
        obtain ⟨a17, c17, rfl⟩ := ho.row.slice
        have HE17 := Lib.hid (below_trans HE16.out hz)
        have HD17 := Lib.hid (below_trans HD16.out hz)
        have hne96 : (((clearL x.s x.o l).length : Int) == 96) = false := by simpa using (by omega : ¬ ((clearL x.s x.o l).length : Int) = 96)
        generalize (clearL x.s x.o l).length = nl at *
        clear hz HCX ho hlen p0 p1 p2 p3
        obtain ⟨⟨p0, p1, p2⟩, p3⟩ := HCA.out _ (below_trans HB1.out HD17.out)
        go_wp2_with fail
        (with_reducible refine (HSF.out _ HD17.out).mono ?_)
        rintro e w18 ⟨v18, rfl, hr18, hz⟩
        have hq := Same_yes (HR2.out.below (below_trans HE17.out hz)) hr18
        obtain ⟨a18, c18, rfl⟩ := hr18.slice
        have HQ := Lib.hid hq
        have HD18 := Lib.hid (below_trans HD17.out hz)
        clear hz HSF hr18 hq p0 p1 p2 p3
        go_wp2_with fail
        (with_reducible refine HQ.out.mono ?_)
        rintro e w19 ⟨rfl, hz⟩
        have HZ := Lib.hid (below_trans HB0.out (below_trans HB1.out (below_trans HD18.out hz)))
        clear hz HQ
        go_wp2_with fail
        go_ret
        exact ⟨rfl, HZ.out⟩

set_option maxRecDepth 100000 in
set_option maxHeartbeats 4000000 in
theorem lifted (os : Os) (started : os.Started) (H : Type) (enc : TypeId × Value → H) :
    ReturnsInHanded {} Try.checked os 3 .any (Rows.timerSetsSpec.pre6 enc Try.prog Try.f3 Rows.timerSetsRow.domain false) (Rows.timerSetsSpec.post enc Try.prog Try.f3 false true false false) := by
  refine returnsInHanded_of_change (C := Try.checked) own started (by kernel_rfl) Try.func3
    (ChangeSpec.witness6 (enc := enc) (C := Try.checked) false ⟨#[], #[.slice none 0 0, .agg #[.int .i64 0, .int .i64 0, .int .i64 0], .int .i64 0, .int .i64 0, .int .i64 0], []⟩ 8 (by kernel_rfl) (by kernel_rfl) (by kernel_rfl) (by kernel_rfl)) ?_
  intro W base args ds gs before hval0 hW hcnd _
  have hval : ∀ (j : Nat) t v, Try.f3.params[j]? = some t → args[j]? = some v → Value.okWide Try.prog W .any base t v := hval0
  have hW' := hW
  obtain ⟨p, q, hA0, hV, rfl, hfz, hnd⟩ := hW
  have hA : DataW.TrodAll enc Try.prog W 0 (fun _ => true) true Try.f3.params.toList args.toList ds p := hA0
  rw [Try.params3] at hA hval
  obtain ⟨v0, vs0, d0, ds0, p0, q0, hargs, rfl, rfl, h0, r0⟩ := trodAll_cons hA
  obtain ⟨v1, vs1, d1, ds1, p1, q1, rfl, rfl, rfl, h1, r1⟩ := trodAll_cons r0
  obtain ⟨v2, vs2, d2, ds2, p2, q2, rfl, rfl, rfl, h2, r2⟩ := trodAll_cons r1
  obtain ⟨v3, vs3, d3, ds3, p3, q3, rfl, rfl, rfl, h3, r3⟩ := trodAll_cons r2
  obtain ⟨v4, vs4, d4, ds4, p4, q4, rfl, rfl, rfl, h4, r4⟩ := trodAll_cons r3
  obtain ⟨rfl, rfl, rfl⟩ := trodAll_nil r4
  obtain rfl : args = #[v0, v1, v2, v3, v4] := by cases args; simp_all
  obtain ⟨rfl, rfl⟩ := trodVars_none hV
  have k0 := h0
  have lt0 : ∀ x ∈ p0, x.block < W.heap.size := by obtain ⟨m, hm⟩ := k0; exact DataW.trod_lt m _ _ _ hm
  obtain ⟨fuel0, hf0⟩ := h0
  obtain ⟨aa0, ll0, cc0, rfl⟩ := okWide_slice Try.underlying22 (hval 0 22 v0 rfl rfl)
  have w0 := argT_of (v := .slice aa0 ll0 cc0) hf0
  have k1 := h1
  have lt1 : ∀ x ∈ p1, x.block < W.heap.size := by obtain ⟨m, hm⟩ := k1; exact DataW.trod_lt m _ _ _ hm
  obtain ⟨fuel1, hf1⟩ := h1
  obtain ⟨x1, rfl⟩ := open_timer (hval 1 24 v1 rfl rfl) hf1
  obtain ⟨a2, rfl, rfl, rfl, w2⟩ := open_int Try.underlying3 (hval 2 3 v2 rfl rfl) h2
  have hb2 : -9223372036854775808 ≤ a2 ∧ a2 ≤ 9223372036854775807 := by
    have := w2
    simp [Lit.wf, IntKind.min, IntKind.max, IntKind.bits, IntKind.signed] at this
    omega
  obtain ⟨a3, rfl, rfl, rfl, w3⟩ := open_int Try.underlying3 (hval 3 3 v3 rfl rfl) h3
  have hb3 : -9223372036854775808 ≤ a3 ∧ a3 ≤ 9223372036854775807 := by
    have := w3
    simp [Lit.wf, IntKind.min, IntKind.max, IntKind.bits, IntKind.signed] at this
    omega
  obtain ⟨a4, rfl, rfl, rfl, w4⟩ := open_int Try.underlying3 (hval 4 3 v4 rfl rfl) h4
  have hb4 : -9223372036854775808 ≤ a4 ∧ a4 ≤ 9223372036854775807 := by
    have := w4
    simp [Lit.wf, IntKind.min, IntKind.max, IntKind.bits, IntKind.signed] at this
    omega
  clear hA0 hval0
  refine (walk0 (.slice aa0 ll0 cc0) x1 a2 hb2.1 hb2.2 a3 hb3.1 hb3.2 a4 hb4.1 hb4.2 W w0).mono fun e W' ⟨he, bel⟩ => ?_
  subst he
  exact ⟨_, rfl, _, _, _, [], _, [], hW', trodAll_mk1 (shut_bool Try.underlying4 _), (trodAll_cons_mk (Below.trod laidOut (by kernel_rfl) (of_decide_eq_true (by kernel_rfl)) k0 bel lt0) (trodAll_cons_mk (Below.trod laidOut (by kernel_rfl) (of_decide_eq_true (by kernel_rfl)) k1 bel lt1) (trodAll_cons_mk (shut_int Try.underlying3 w2) (trodAll_cons_mk (shut_int Try.underlying3 w3) (trodAll_cons_mk (shut_int Try.underlying3 w4) trodAll_mk0))))), rfl, bel.frame _, fun h => by cases h⟩

theorem over : Rows.timerSetsRow.holds Try.pinned (OpenSpec.ofChange Rows.timerSetsSpec) :=
  OpenClaim.holds_of_wide 3 Try.f3 rfl rfl rfl rfl rfl rfl rfl ⟨rfl, rfl, rfl, rfl, rfl⟩ rfl rfl rfl rfl rfl (by kernel_rfl) Try.func3 (by kernel_rfl)
    (of_decide_eq_true (by kernel_rfl)) (by unfold Func.isWrapper; first | (rw [if_pos (by decide +kernel)]; kernel_rfl) | (rw [if_neg (by decide +kernel)]; exact ⟨rfl, rfl⟩))
    (fun os started H enc _ => lifted os started H enc)

theorem proved : Rows.TimerSetsSaid := over
#print axioms proved
end Go.Proofs.Ytncaohdnbibkfaa.timerSets
