/-
  Proved: for any outbox, kind, order, time and key the law OutboxGoes returns true: which outboxes may be, and what putting, doing, finding and telling makes of any, is as the reference says, or refused. No condition.
-/
import Derived.Test.YtlhepocjcdbhjaaRows
import Derived.Test.YtlhepocjcdbhjaaURef3
namespace Go.Proofs.Ytlhepocjcdbhjaa.outboxGoes
open Go.ChangeShapes Go.WideShapes Go.ChangeAt Go.RowKit Go.Lib Go.Proofs.Ytlhepocjcdbhjaa.Outbox
open Go.Proofs.Ytlhepocjcdbhjaa.Queue (Box al dr below_trans ret_bool BoolB)
set_option linter.unusedVariables false

theorem own : ownKnob Try.prog.godebug = none := by kernel_rfl
theorem laidOut : laidOutB Try.prog = true := by kernel_rfl

set_option maxRecDepth 100000 in
set_option maxHeartbeats 2000000 in
theorem few_is {a : Option Addr} {cap : Nat} {l : List Ot} {w : World} (t : Int) (h : URow w (.slice a l.length cap) l) : Calls Try.prog 5 #[bv t (.slice a l.length cap)] w (fun e w' => e = .returned (bv t (.slice a (l.take 98).length cap)) ∧ Below w.heap.size w w') := by
  obtain ⟨_, hlc, hcap⟩ := URow.cap h
  obtain ⟨hx0, hx1⟩ := two_boxes w (bcs t (.slice a l.length cap)) (bcs 0 (.slice none 0 0)) 24 24
  have hb0 := two_al w (.cells #[.int .i64 t, .slice a l.length cap] 24) (.cells #[.int .i64 0, .slice none 0 0] 24)
  obtain ⟨W0, hW0⟩ : ∃ W, (w.alloc (.cells #[.int .i64 t, .slice a l.length cap] 24)).alloc (.cells #[.int .i64 0, .slice none 0 0] 24) = W := ⟨_, rfl⟩
  have HX0 : Hid (Box w.heap.size (bcs t (.slice a l.length cap)) W0) := Lib.hid (hW0 ▸ hx0)
  have HR0 : Hid (Box (w.heap.size + 1) (bcs 0 (.slice none 0 0)) W0) := Lib.hid (hW0 ▸ hx1)
  have HB0 : Hid (Below w.heap.size w W0) := Lib.hid (hW0 ▸ hb0)
  have hm : (l.take 98).length = min l.length 98 := by rw [List.length_take]; omega
  rw [hm]
  unfold bv
  clear hx0 hx1 hb0 h hm
  have hm1 : (0 : Int) ≤ (min l.length 98 : Nat) := by omega
  have hm2 : ((min l.length 98 : Nat) : Int) ≤ cap := by omega
  have HM : Hid ((98 < l.length ∧ min l.length 98 = 98) ∨ (¬ 98 < l.length ∧ min l.length 98 = l.length)) := Lib.hid (by omega)
  generalize min l.length 98 = m at *
  rcases HM.out with ⟨hc, rfl⟩ | ⟨hc, e⟩
  · go_enter Try.func5, Try.ntmps5
    go_upto_region 1 with (fail)
    clear hW0
    obtain ⟨c0, c1⟩ := box2 HX0.out
    have hs0 := HX0.out.1
    obtain ⟨y0, y1⟩ := box2 HR0.out
    obtain ⟨z0, z1⟩ := frz2 HR0.out
    have hsz := HR0.out.1
    have HE := Lib.hid (below_two (b := w.heap.size + 1) (.int .i64 t) (.slice a 98 cap) (below_trans HB0.out (dr W0)) (by omega))
    go_region
    all_goals go_wp2_with fail
    all_goals exact bodyPost_ret (by simp [results, Try.results5, go_sem, y0, y1]) rfl ⟨rfl, HE.out⟩
  · subst e
    go_enter Try.func5, Try.ntmps5
    go_upto_region 1 with (fail)
    clear hW0
    obtain ⟨c0, c1⟩ := box2 HX0.out
    have hs0 := HX0.out.1
    obtain ⟨y0, y1⟩ := box2 HR0.out
    obtain ⟨z0, z1⟩ := frz2 HR0.out
    have hsz := HR0.out.1
    have HE := Lib.hid (below_two (b := w.heap.size + 1) (.int .i64 t) (.slice a l.length cap) (below_trans HB0.out (dr W0)) (by omega))
    go_region
    all_goals go_wp2_with fail
    all_goals exact bodyPost_ret (by simp [results, Try.results5, go_sem, y0, y1]) rfl ⟨rfl, HE.out⟩

theorem done_is (l : List Ot) (t y : Int) : (rightB l t = false → doneZ l t y = 1 ∧ doneL l t y = [] ∧ doneT l t y = 0 ∧ doneO l t y = noT) ∧
    (rightB l t = true → (doneZ l t y = 8 ∧ doneL l t y = [] ∧ doneT l t y = 0 ∧ doneO l t y = noT ∧ fst (keyB y) l = noT) ∨ (doneZ l t y = 0 ∧ doneL l t y = done l y ∧ doneT l t y = t ∧ doneO l t y = fst (keyB y) l ∧ ¬ (fst (keyB y) l).y = 0)) := by
  unfold doneL doneT doneO
  constructor
  · intro h
    have e : doneZ l t y = 1 := if_neg (by rw [h]; decide)
    rw [e]
    exact ⟨rfl, rfl, rfl, rfl⟩
  · intro h
    by_cases ha : l.any (keyB y) = true
    · have e : doneZ l t y = 0 := by unfold doneZ; rw [if_pos h, if_pos ha]
      rw [e]
      refine .inr ⟨rfl, rfl, rfl, rfl, ?_⟩
      unfold fst
      cases e2 : l.find? (keyB y) with
      | none =>
        obtain ⟨x, hx, hp⟩ := List.any_eq_true.1 ha
        exact absurd hp (List.find?_eq_none.1 e2 x hx)
      | some x =>
        have := mayU_t.1 ((rightB_t.1 h).2.2.1 x (List.mem_of_find?_eq_some e2)).1
        show ¬ x.y = 0
        omega
    · have e : doneZ l t y = 8 := by unfold doneZ; rw [if_pos h, if_neg ha]
      rw [e]
      exact .inl ⟨rfl, rfl, rfl, rfl, fst_no (by simpa using ha)⟩
theorem find_is (l : List Ot) (t k o : Int) : (rightB l t = false → findZ l t k o = 1 ∧ findO l t k o = noT) ∧
    (rightB l t = true → (findZ l t k o = 8 ∧ findO l t k o = noT ∧ fst (ofB k o) l = noT) ∨ (findZ l t k o = 0 ∧ findO l t k o = fst (ofB k o) l ∧ (fst (ofB k o) l).y > 0)) := by
  unfold findO
  constructor
  · intro h
    have e : findZ l t k o = 1 := if_neg (by rw [h]; decide)
    rw [e]
    exact ⟨rfl, rfl⟩
  · intro h
    rcases fst_key (k := k) (o := o) (rightB_t.1 h) with ⟨ha, hy⟩ | ⟨ha, hn⟩
    · have e : findZ l t k o = 0 := by unfold findZ; rw [if_pos h, if_pos ha]
      rw [e]
      exact .inr ⟨rfl, rfl, hy⟩
    · have e : findZ l t k o = 8 := by unfold findZ; rw [if_pos h, if_neg (by rw [ha]; decide)]
      rw [e]
      exact .inl ⟨rfl, rfl, hn⟩
theorem tell_is (l : List Ot) (t n : Int) : (rightB l t = false ∨ ¬ TickP n → tellZ l t n = 1 ∧ tellL l t n = [] ∧ tellT l t n = 0 ∧ tellM l t n = []) ∧
    (rightB l t = true ∧ TickP n → tellZ l t n = 0 ∧ tellL l t n = tell l n ∧ tellT l t n = t ∧ tellM l t n = told l n) := by
  unfold tellL tellT tellM
  constructor
  · intro h
    have e : tellZ l t n = 1 := if_neg (fun e => by rcases h with h | h; rw [h] at e; exact absurd e.1 (by decide); exact h e.2)
    rw [e]
    exact ⟨rfl, rfl, rfl, rfl⟩
  · intro h
    have e : tellZ l t n = 0 := if_pos h
    rw [e]
    exact ⟨rfl, rfl, rfl, rfl⟩

set_option maxRecDepth 100000 in
set_option maxHeartbeats 32000000 in
theorem walk0 (t : Int) (u : Value) (kd : Int) (_k1 : -9223372036854775808 ≤ kd) (_k2 : kd ≤ 9223372036854775807) (od : Int) (_o1 : -9223372036854775808 ≤ od) (_o2 : od ≤ 9223372036854775807) (nw : Int) (_n1 : -9223372036854775808 ≤ nw) (_n2 : nw ≤ 9223372036854775807) (ky : Int) (_y1 : -9223372036854775808 ≤ ky) (_y2 : ky ≤ 9223372036854775807) (w : World) (hA : ArgU w u) :
    Calls Try.prog 3 #[bv t u, .int .i64 kd, .int .i64 od, .int .i64 nw, .int .i64 ky] w (BoolB true w) := by
  obtain ⟨l0, hu⟩ := hA
  obtain ⟨a, cap, rfl⟩ := hu.slice
  have hx := Box.made w [.int .i64 t, .slice a l0.length cap] 24
  have hb := al w (.cells #[.int .i64 t, .slice a l0.length cap] 24)
  obtain ⟨w0, hw0⟩ : ∃ W, w.alloc (.cells #[.int .i64 t, .slice a l0.length cap] 24) = W := ⟨_, rfl⟩
  have HX5 : Hid (Box w.heap.size [.int .i64 t, .slice a l0.length cap] w0) := Lib.hid (hw0 ▸ hx)
  have HB : Hid (Below w.heap.size w w0) := Lib.hid (hw0 ▸ hb)
  have HFE := Lib.hid (few_is t (hu.below HB.out))
  have htk : URow w (.slice a (l0.take 98).length cap) (l0.take 98) := by
    have := URow.take hu (n := (l0.take 98).length) (by rw [List.length_take]; omega)
    rwa [show l0.take (l0.take 98).length = l0.take 98 by rw [List.length_take]; rcases Nat.le_total 98 l0.length with h | h; rw [Nat.min_eq_left h]; rw [Nat.min_eq_right h, List.take_of_length_le (Nat.le_refl _), List.take_of_length_le h]] at this
  have hll : (l0.take 98).length ≤ 98 := by rw [List.length_take]; omega
  have HTK := Lib.hid htk
  generalize l0.take 98 = l at *
  unfold bv at HFE
  unfold bv
  clear hx hb htk hu
  have HPU := Lib.hid (fun W (h : URow W (.slice a l.length cap) l) => Put_any t kd od nw h (by omega))
  have HRP := Lib.hid (fun W (h : URow W (.slice a l.length cap) l) => refPut_any t kd od nw h (by omega))
  have HDO := Lib.hid (fun W (h : URow W (.slice a l.length cap) l) => Done_any t ky h (by omega))
  have HFI := Lib.hid (fun W (h : URow W (.slice a l.length cap) l) => Find_any t kd od h (by omega))
  have HTE := Lib.hid (fun W (h : URow W (.slice a l.length cap) l) => Tell_any t nw h (by omega))
  have HRI := Lib.hid (fun W (h : URow W (.slice a l.length cap) l) => Right_any t h (by omega))
  have HRR := Lib.hid (fun W (h : URow W (.slice a l.length cap) l) => refRight_any t h)
  have HRF := Lib.hid (fun W (h : URow W (.slice a l.length cap) l) => refFind_any t kd od h)
  have HRG := Lib.hid (fun W (h : URow W (.slice a l.length cap) l) => refGet_any t ky h)
  have HRD := Lib.hid (fun W (h : URow W (.slice a l.length cap) l) => refDone_any t ky h (by omega))
  have HRO := Lib.hid (fun W (h : URow W (.slice a l.length cap) l) => refTold_any t nw h (by omega))
  have HRT := Lib.hid (fun h0 h1 W (h : URow W (.slice a l.length cap) l) => refTell_any t nw h0 h1 h (by omega))
  have WD := Lib.hid (done_is l t ky)
  have WF := Lib.hid (find_is l t kd od)
  have WT := Lib.hid (tell_is l t nw)
  generalize putL l t kd od nw = P at *
  generalize putT l t kd od nw = T at *
  generalize putZ l t kd od nw = z at *
  generalize doneL l t ky = D at *
  generalize doneT l t ky = TD at *
  generalize doneO l t ky = dO at *
  generalize doneZ l t ky = dz at *
  generalize findO l t kd od = fO at *
  generalize findZ l t kd od = fz at *
  generalize tellL l t nw = L9 at *
  generalize tellT l t nw = T9 at *
  generalize tellM l t nw = M9 at *
  generalize tellZ l t nw = hz9 at *
  unfold bv at HPU HRP HDO HFI HTE HRI HRR HRF HRG HRD HRO HRT
  have HLK := Lib.hid (fun (t : Int) (v u : Value) (l : List Ot) W (h : URow W v l) (h' : URow W u l) => Like_yes t h h')
  have HSM := Lib.hid (fun (v u : Value) (l : List Ot) W (h : URow W v l) (h' : URow W u l) => Same_yes h h')
  have HAL := Lib.hid alive_any
  unfold bv at HLK
  go_enter Try.func3, Try.ntmps3
  go_upto_region 1 with (fail)
  clear hw0
  obtain ⟨q5_0, q5_1⟩ := box2 HX5.out
  have s5_ := HX5.out.1
  go_wp2_with fail
  (with_reducible refine HFE.out.mono ?_)
  rintro e v0 ⟨rfl, hz⟩
  clear q5_0 q5_1 s5_
  have hx5 := HX5.out.below hz
  have hb5 := below_two (b := w.heap.size) (.int .i64 t) (.slice a l.length cap) (below_trans HB.out hz) (Nat.le_refl _)
  have hp5 : Box w.heap.size [.int .i64 t, .slice a l.length cap] _ := box_put (box_put hx5 0 (.int .i64 t) (by simp)) 1 (.slice a l.length cap) (by simp)
  obtain ⟨y0, y1⟩ := box2 hx5
  obtain ⟨z0, z1⟩ := frz2 hx5
  have hs5 := hx5.1
  replace HX5 := Lib.hid hp5
  replace HB := Lib.hid hb5
  clear hz hx5 hb5 hp5 HFE
  go_upto_region 2 with (fail)
  clear y0 y1 z0 z1 hs5
  generalize (v0.setCell ⟨w.heap.size, 0, none⟩ (.int .i64 t)).setCell ⟨w.heap.size, 1, none⟩ (.slice a l.length cap) = w1 at HX5 HB ⊢
  have HR5 : Hid (URow w1 (.slice a l.length cap) l) := Lib.hid (HTK.out.below HB.out)
  clear HTK
  obtain ⟨q5_0, q5_1⟩ := box2 HX5.out
  have s5_ := HX5.out.1
  go_wp2_with fail
  (with_reducible refine (HPU.out _ HR5.out).mono ?_)
  rintro e v2 ⟨u2, rfl, ho, hz⟩
  unfold bv
  obtain ⟨a2, c2, rfl⟩ : ∃ a c, u2 = .slice a (P).length c := ho.row.slice
  clear q5_0 q5_1 s5_
  obtain ⟨w2, hw2⟩ : ∃ W, (v2.alloc (.cells #[.int .i64 T, .slice a2 P.length c2] 24)) = W := ⟨_, rfl⟩
  have hal : Below v2.heap.size v2 w2 := hw2 ▸ al v2 _
  have HX11 : Hid (Box v2.heap.size [.int .i64 T, .slice a2 P.length c2] w2) := Lib.hid (hw2 ▸ Box.made v2 [.int .i64 T, .slice a2 P.length c2] 24)
  have hz2 : Below w1.heap.size w1 w2 := below_trans hz hal
  replace HX5 : Hid (Box (w.heap.size) [.int .i64 t, .slice a l.length cap] w2) := Lib.hid (HX5.out.below hz2)
  replace HR5 : Hid (URow w2 (.slice a l.length cap) (l)) := Lib.hid (HR5.out.below hz2)
  replace HB : Hid (Below w.heap.size w w2) := Lib.hid (below_trans HB.out hz2)
  have HR11 : Hid (URow w2 (.slice a2 P.length c2) (P)) := Lib.hid ((ho.row).below hal)
  clear hz hz2 hal ho
  go_upto_region 3 with (fail)
  try rw [hw2]
  clear hw2
  generalize v2.heap.size = g2 at *
  obtain ⟨q5_0, q5_1⟩ := box2 HX5.out
  have s5_ := HX5.out.1
  go_wp2_with fail
  (with_reducible refine (HDO.out _ HR5.out).mono ?_)
  rintro e v3 ⟨u3, rfl, ho, hz⟩
  unfold bv uv
  obtain ⟨a3, c3, rfl⟩ : ∃ a c, u3 = .slice a (D).length c := ho.row.slice
  clear q5_0 q5_1 s5_
  obtain ⟨w3, hw3⟩ : ∃ W, ((v3.alloc (.cells #[.int .i64 TD, .slice a3 D.length c3] 24)).alloc (.cells #[.int .i64 dO.y, .int .i64 dO.k, .int .i64 dO.o, .int .i64 dO.d] 30)) = W := ⟨_, rfl⟩
  have hal : Below v3.heap.size v3 w3 := hw3 ▸ two_al v3 _ _
  have hbb := two_boxes v3 [.int .i64 TD, .slice a3 D.length c3] [.int .i64 dO.y, .int .i64 dO.k, .int .i64 dO.o, .int .i64 dO.d] 24 30
  have HX14 : Hid (Box v3.heap.size [.int .i64 TD, .slice a3 D.length c3] w3) := Lib.hid (hw3 ▸ hbb.1)
  have HX15 : Hid (Box (v3.heap.size + 1) [.int .i64 dO.y, .int .i64 dO.k, .int .i64 dO.o, .int .i64 dO.d] w3) := Lib.hid (hw3 ▸ hbb.2)
  clear hbb
  have hz2 : Below w2.heap.size w2 w3 := below_trans hz hal
  replace HX5 : Hid (Box (w.heap.size) [.int .i64 t, .slice a l.length cap] w3) := Lib.hid (HX5.out.below hz2)
  replace HX11 : Hid (Box (g2) [.int .i64 T, .slice a2 P.length c2] w3) := Lib.hid (HX11.out.below hz2)
  replace HR5 : Hid (URow w3 (.slice a l.length cap) (l)) := Lib.hid (HR5.out.below hz2)
  replace HR11 : Hid (URow w3 (.slice a2 P.length c2) (P)) := Lib.hid (HR11.out.below hz2)
  replace HB : Hid (Below w.heap.size w w3) := Lib.hid (below_trans HB.out hz2)
  have HR14 : Hid (URow w3 (.slice a3 D.length c3) (D)) := Lib.hid ((ho.row).below hal)
  clear hz hz2 hal ho
  go_upto_region 4 with (fail)
  try rw [hw3]
  clear hw3
  generalize v3.heap.size = g3 at *
  obtain ⟨q5_0, q5_1⟩ := box2 HX5.out
  have s5_ := HX5.out.1
  go_wp2_with fail
  (with_reducible refine (HFI.out _ HR5.out).mono ?_)
  rintro e v4 ⟨rfl, hz⟩
  unfold uv
  clear q5_0 q5_1 s5_
  obtain ⟨w4, hw4⟩ : ∃ W, (v4.alloc (.cells #[.int .i64 fO.y, .int .i64 fO.k, .int .i64 fO.o, .int .i64 fO.d] 30)) = W := ⟨_, rfl⟩
  have hal : Below v4.heap.size v4 w4 := hw4 ▸ al v4 _
  have HX17 : Hid (Box v4.heap.size [.int .i64 fO.y, .int .i64 fO.k, .int .i64 fO.o, .int .i64 fO.d] w4) := Lib.hid (hw4 ▸ Box.made v4 [.int .i64 fO.y, .int .i64 fO.k, .int .i64 fO.o, .int .i64 fO.d] 30)
  have hz2 : Below w3.heap.size w3 w4 := below_trans hz hal
  replace HX5 : Hid (Box (w.heap.size) [.int .i64 t, .slice a l.length cap] w4) := Lib.hid (HX5.out.below hz2)
  replace HX11 : Hid (Box (g2) [.int .i64 T, .slice a2 P.length c2] w4) := Lib.hid (HX11.out.below hz2)
  replace HX14 : Hid (Box (g3) [.int .i64 TD, .slice a3 D.length c3] w4) := Lib.hid (HX14.out.below hz2)
  replace HX15 : Hid (Box (g3 + 1) [.int .i64 dO.y, .int .i64 dO.k, .int .i64 dO.o, .int .i64 dO.d] w4) := Lib.hid (HX15.out.below hz2)
  replace HR5 : Hid (URow w4 (.slice a l.length cap) (l)) := Lib.hid (HR5.out.below hz2)
  replace HR11 : Hid (URow w4 (.slice a2 P.length c2) (P)) := Lib.hid (HR11.out.below hz2)
  replace HR14 : Hid (URow w4 (.slice a3 D.length c3) (D)) := Lib.hid (HR14.out.below hz2)
  replace HB : Hid (Below w.heap.size w w4) := Lib.hid (below_trans HB.out hz2)
  clear hz hz2 hal
  go_upto_region 5 with (fail)
  try rw [hw4]
  clear hw4
  generalize v4.heap.size = g4 at *
  obtain ⟨q5_0, q5_1⟩ := box2 HX5.out
  have s5_ := HX5.out.1
  go_wp2_with fail
  (with_reducible refine (HTE.out _ HR5.out).mono ?_)
  rintro e v5 ⟨u5, u6, rfl, ho, hou, hz⟩
  unfold bv
  obtain ⟨a5, c5, rfl⟩ : ∃ a c, u5 = .slice a (L9).length c := ho.row.slice
  obtain ⟨a6, c6, rfl⟩ : ∃ a c, u6 = .slice a M9.length c := hou.row.slice
  clear q5_0 q5_1 s5_
  obtain ⟨w5, hw5⟩ : ∃ W, (v5.alloc (.cells #[.int .i64 T9, .slice a5 L9.length c5] 24)) = W := ⟨_, rfl⟩
  have hal : Below v5.heap.size v5 w5 := hw5 ▸ al v5 _
  have HX19 : Hid (Box v5.heap.size [.int .i64 T9, .slice a5 L9.length c5] w5) := Lib.hid (hw5 ▸ Box.made v5 [.int .i64 T9, .slice a5 L9.length c5] 24)
  have hz2 : Below w4.heap.size w4 w5 := below_trans hz hal
  replace HX5 : Hid (Box (w.heap.size) [.int .i64 t, .slice a l.length cap] w5) := Lib.hid (HX5.out.below hz2)
  replace HX11 : Hid (Box (g2) [.int .i64 T, .slice a2 P.length c2] w5) := Lib.hid (HX11.out.below hz2)
  replace HX14 : Hid (Box (g3) [.int .i64 TD, .slice a3 D.length c3] w5) := Lib.hid (HX14.out.below hz2)
  replace HX15 : Hid (Box (g3 + 1) [.int .i64 dO.y, .int .i64 dO.k, .int .i64 dO.o, .int .i64 dO.d] w5) := Lib.hid (HX15.out.below hz2)
  replace HX17 : Hid (Box (g4) [.int .i64 fO.y, .int .i64 fO.k, .int .i64 fO.o, .int .i64 fO.d] w5) := Lib.hid (HX17.out.below hz2)
  replace HR5 : Hid (URow w5 (.slice a l.length cap) (l)) := Lib.hid (HR5.out.below hz2)
  replace HR11 : Hid (URow w5 (.slice a2 P.length c2) (P)) := Lib.hid (HR11.out.below hz2)
  replace HR14 : Hid (URow w5 (.slice a3 D.length c3) (D)) := Lib.hid (HR14.out.below hz2)
  replace HB : Hid (Below w.heap.size w w5) := Lib.hid (below_trans HB.out hz2)
  have HR19 : Hid (URow w5 (.slice a5 L9.length c5) (L9)) := Lib.hid ((ho.row).below hal)
  have HR20 : Hid (URow w5 (.slice a6 M9.length c6) (M9)) := Lib.hid ((hou.row).below hal)
  clear hz hz2 hal ho hou
  go_upto_region 6 with (fail)
  try rw [hw5]
  clear hw5
  generalize v5.heap.size = g5 at *
  have hz := al w5 (.cells #[.int .i64 0, .slice none 0 0] 24)
  have hbx := Box.made w5 [.int .i64 0, .slice none 0 0] 24
  go_upto_region 7 with (fail)
  generalize w5.alloc (.cells #[.int .i64 0, .slice none 0 0] 24) = w6 at hz hbx ⊢
  replace HX5 : Hid (Box (w.heap.size) [.int .i64 t, .slice a l.length cap] w6) := Lib.hid (HX5.out.below hz)
  replace HX11 : Hid (Box (g2) [.int .i64 T, .slice a2 P.length c2] w6) := Lib.hid (HX11.out.below hz)
  replace HX14 : Hid (Box (g3) [.int .i64 TD, .slice a3 D.length c3] w6) := Lib.hid (HX14.out.below hz)
  replace HX15 : Hid (Box (g3 + 1) [.int .i64 dO.y, .int .i64 dO.k, .int .i64 dO.o, .int .i64 dO.d] w6) := Lib.hid (HX15.out.below hz)
  replace HX17 : Hid (Box (g4) [.int .i64 fO.y, .int .i64 fO.k, .int .i64 fO.o, .int .i64 fO.d] w6) := Lib.hid (HX17.out.below hz)
  replace HX19 : Hid (Box (g5) [.int .i64 T9, .slice a5 L9.length c5] w6) := Lib.hid (HX19.out.below hz)
  replace HR5 : Hid (URow w6 (.slice a l.length cap) (l)) := Lib.hid (HR5.out.below hz)
  replace HR11 : Hid (URow w6 (.slice a2 P.length c2) (P)) := Lib.hid (HR11.out.below hz)
  replace HR14 : Hid (URow w6 (.slice a3 D.length c3) (D)) := Lib.hid (HR14.out.below hz)
  replace HR19 : Hid (URow w6 (.slice a5 L9.length c5) (L9)) := Lib.hid (HR19.out.below hz)
  replace HR20 : Hid (URow w6 (.slice a6 M9.length c6) (M9)) := Lib.hid (HR20.out.below hz)
  replace HB : Hid (Below w.heap.size w w6) := Lib.hid (below_trans HB.out hz)
  have HX22 := Lib.hid hbx
  clear hz hbx
  generalize w5.heap.size = g6 at *
  obtain ⟨q5_0, q5_1⟩ := box2 HX5.out
  have s5_ := HX5.out.1
  go_wp2_with fail
  (with_reducible refine (HRP.out _ HR5.out).mono ?_)
  rintro e v7 ⟨u7, rfl, ho, hz⟩
  obtain ⟨a7, c7, rfl⟩ : ∃ a c, u7 = .slice a (P).length c := ho.row.slice
  clear q5_0 q5_1 s5_
  obtain ⟨w7, hw7⟩ : ∃ W, (v7.alloc (.cells #[.int .i64 T, .slice a7 P.length c7, .int .i64 T, .int .i64 z] 38)) = W := ⟨_, rfl⟩
  have hal : Below v7.heap.size v7 w7 := hw7 ▸ al v7 _
  have HX23 : Hid (Box v7.heap.size [.int .i64 T, .slice a7 P.length c7, .int .i64 T, .int .i64 z] w7) := Lib.hid (hw7 ▸ Box.made v7 [.int .i64 T, .slice a7 P.length c7, .int .i64 T, .int .i64 z] 38)
  have hz2 : Below w6.heap.size w6 w7 := below_trans hz hal
  replace HX5 : Hid (Box (w.heap.size) [.int .i64 t, .slice a l.length cap] w7) := Lib.hid (HX5.out.below hz2)
  replace HX11 : Hid (Box (g2) [.int .i64 T, .slice a2 P.length c2] w7) := Lib.hid (HX11.out.below hz2)
  replace HX14 : Hid (Box (g3) [.int .i64 TD, .slice a3 D.length c3] w7) := Lib.hid (HX14.out.below hz2)
  replace HX15 : Hid (Box (g3 + 1) [.int .i64 dO.y, .int .i64 dO.k, .int .i64 dO.o, .int .i64 dO.d] w7) := Lib.hid (HX15.out.below hz2)
  replace HX17 : Hid (Box (g4) [.int .i64 fO.y, .int .i64 fO.k, .int .i64 fO.o, .int .i64 fO.d] w7) := Lib.hid (HX17.out.below hz2)
  replace HX19 : Hid (Box (g5) [.int .i64 T9, .slice a5 L9.length c5] w7) := Lib.hid (HX19.out.below hz2)
  replace HX22 : Hid (Box (g6) [.int .i64 0, .slice none 0 0] w7) := Lib.hid (HX22.out.below hz2)
  replace HR5 : Hid (URow w7 (.slice a l.length cap) (l)) := Lib.hid (HR5.out.below hz2)
  replace HR11 : Hid (URow w7 (.slice a2 P.length c2) (P)) := Lib.hid (HR11.out.below hz2)
  replace HR14 : Hid (URow w7 (.slice a3 D.length c3) (D)) := Lib.hid (HR14.out.below hz2)
  replace HR19 : Hid (URow w7 (.slice a5 L9.length c5) (L9)) := Lib.hid (HR19.out.below hz2)
  replace HR20 : Hid (URow w7 (.slice a6 M9.length c6) (M9)) := Lib.hid (HR20.out.below hz2)
  replace HB : Hid (Below w.heap.size w w7) := Lib.hid (below_trans HB.out hz2)
  have HR23 : Hid (URow w7 (.slice a7 P.length c7) (P)) := Lib.hid ((ho.row).below hal)
  clear hz hz2 hal ho
  go_upto_region 8 with (fail)
  try rw [hw7]
  clear hw7
  generalize v7.heap.size = g7 at *
  clear HPU HDO HFI HTE HRP
  skip
  cases hr : rightB l t with
  | false =>
    rw [hr] at HRI HRR
    refine wp_region_noPanic ?_
    refine wp_region_held_drew (S := fun W' => Below w7.heap.size w7 W') (by kernel_rfl) (dr w7) (fun hHeld => ?_)
    try simp only [Act.put, List.setIfInBounds_toArray, List.set_cons_zero, List.set_cons_succ]
    refine takeH 0 64 (.agg #[.int .i64 t, .slice a l.length cap]) calm_np rfl rfl (by kernel_rfl) (by kernel_rfl) (by kernel_rfl) (by rfl) (fun W' hSw => by have g0 := (show _ = some (Value.int .i64 t) from (HX5.out.below hSw).at 0 rfl); have g1 := (show _ = some (Value.slice a l.length cap) from (HX5.out.below hSw).at 1 rfl); have hsz := (HX5.out.below hSw).1; go_simp) hHeld ?_
    try simp only [Act.put, List.setIfInBounds_toArray, List.set_cons_zero, List.set_cons_succ]
    refine takeH 2 66 (.agg #[.int .i64 t, .slice a l.length cap]) calm_np rfl rfl (by kernel_rfl) (by kernel_rfl) (by kernel_rfl) (by rfl) (fun W' hSw => by have g0 := (show _ = some (Value.int .i64 t) from (HX5.out.below hSw).at 0 rfl); have g1 := (show _ = some (Value.slice a l.length cap) from (HX5.out.below hSw).at 1 rfl); have hsz := (HX5.out.below hSw).1; go_simp) hHeld ?_
    try simp only [Act.put, List.setIfInBounds_toArray, List.set_cons_zero, List.set_cons_succ]
    refine wpAnyH_ready (rs := [1]) (by kernel_rfl) (by simp) (AllReadyH.cons rfl (fun K hK => ?_) AllReadyH.nil)
    go_simp
    (with_reducible refine (HRI.out _ (HR5.out.below hHeld)).mono ?_)
    rintro e V1 ⟨rfl, hz⟩
    have hh := below_trans hHeld hz
    clear hz
    go_simp
    refine hK.out _ _ hh (fun hHeld => ?_)
    clear hK hh
    try simp only [Act.put, List.setIfInBounds_toArray, List.set_cons_zero, List.set_cons_succ]
    refine wpAnyH_ready (rs := [3]) (by kernel_rfl) (by simp) (AllReadyH.cons rfl (fun K hK => ?_) AllReadyH.nil)
    go_simp
    (with_reducible refine (HRR.out _ (HR5.out.below hHeld)).mono ?_)
    rintro e V2 ⟨rfl, hz⟩
    have hh := below_trans hHeld hz
    clear hz
    go_simp
    refine hK.out _ _ hh (fun hHeld => ?_)
    clear hK hh
    try simp only [Act.put, List.setIfInBounds_toArray, List.set_cons_zero, List.set_cons_succ]
    refine takeH 4 68 (.bool false) calm_np rfl rfl (by kernel_rfl) (by kernel_rfl) (by kernel_rfl) (by rfl) (fun W' hSw => by go_simp) hHeld ?_
    try simp only [Act.put, List.setIfInBounds_toArray, List.set_cons_zero, List.set_cons_succ]
    refine takeH 5 69 (.bool false) calm_np rfl rfl (by kernel_rfl) (by kernel_rfl) (by kernel_rfl) (by rfl) (fun W' hSw => by go_simp) hHeld ?_
    try simp only [Act.put, List.setIfInBounds_toArray, List.set_cons_zero, List.set_cons_succ]
    refine takeH 6 70 (.int .i64 z) calm_np rfl rfl (by kernel_rfl) (by kernel_rfl) (by kernel_rfl) (by rfl) (fun W' hSw => by go_simp) hHeld ?_
    try simp only [Act.put, List.setIfInBounds_toArray, List.set_cons_zero, List.set_cons_succ]
    refine takeH 7 71 (.pointer (some ⟨g7, 3, none⟩)) calm_np rfl rfl (by kernel_rfl) (by kernel_rfl) (by kernel_rfl) (by rfl) (fun W' hSw => by go_simp) hHeld ?_
    try simp only [Act.put, List.setIfInBounds_toArray, List.set_cons_zero, List.set_cons_succ]
    refine takeH 8 72 (.int .i64 z) calm_np rfl rfl (by kernel_rfl) (by kernel_rfl) (by kernel_rfl) (by rfl) (fun W' hSw => by have g0 := (show _ = some (Value.int .i64 z) from (HX23.out.below hSw).at 3 rfl); have hsz := (HX23.out.below hSw).1; go_simp) hHeld ?_
    try simp only [Act.put, List.setIfInBounds_toArray, List.set_cons_zero, List.set_cons_succ]
    refine takeH 9 73 (.bool false) calm_np rfl rfl (by kernel_rfl) (by kernel_rfl) (by kernel_rfl) (by rfl) (fun W' hSw => by go_simp) hHeld ?_
    try simp only [Act.put, List.setIfInBounds_toArray, List.set_cons_zero, List.set_cons_succ]
    refine takeH 10 74 (.bool false) calm_np rfl rfl (by kernel_rfl) (by kernel_rfl) (by kernel_rfl) (by rfl) (fun W' hSw => by go_simp) hHeld ?_
    try simp only [Act.put, List.setIfInBounds_toArray, List.set_cons_zero, List.set_cons_succ]
    refine takeH 11 75 (.bool false) calm_np rfl rfl (by kernel_rfl) (by kernel_rfl) (by kernel_rfl) (by rfl) (fun W' hSw => by go_simp) hHeld ?_
    try simp only [Act.put, List.setIfInBounds_toArray, List.set_cons_zero, List.set_cons_succ]
    refine takeH 12 76 (.int .i64 T) calm_np rfl rfl (by kernel_rfl) (by kernel_rfl) (by kernel_rfl) (by rfl) (fun W' hSw => by go_simp) hHeld ?_
    try simp only [Act.put, List.setIfInBounds_toArray, List.set_cons_zero, List.set_cons_succ]
    refine takeH 13 77 (.pointer (some ⟨g7, 2, none⟩)) calm_np rfl rfl (by kernel_rfl) (by kernel_rfl) (by kernel_rfl) (by rfl) (fun W' hSw => by go_simp) hHeld ?_
    try simp only [Act.put, List.setIfInBounds_toArray, List.set_cons_zero, List.set_cons_succ]
    refine takeH 14 78 (.int .i64 T) calm_np rfl rfl (by kernel_rfl) (by kernel_rfl) (by kernel_rfl) (by rfl) (fun W' hSw => by have g0 := (show _ = some (Value.int .i64 T) from (HX23.out.below hSw).at 2 rfl); have hsz := (HX23.out.below hSw).1; go_simp) hHeld ?_
    try simp only [Act.put, List.setIfInBounds_toArray, List.set_cons_zero, List.set_cons_succ]
    refine takeH 15 79 (.bool false) calm_np rfl rfl (by kernel_rfl) (by kernel_rfl) (by kernel_rfl) (by rfl) (fun W' hSw => by go_simp) hHeld ?_
    try simp only [Act.put, List.setIfInBounds_toArray, List.set_cons_zero, List.set_cons_succ]
    refine takeH 16 80 (.bool false) calm_np rfl rfl (by kernel_rfl) (by kernel_rfl) (by kernel_rfl) (by rfl) (fun W' hSw => by go_simp) hHeld ?_
    try simp only [Act.put, List.setIfInBounds_toArray, List.set_cons_zero, List.set_cons_succ]
    refine takeH 17 81 (.bool false) calm_np rfl rfl (by kernel_rfl) (by kernel_rfl) (by kernel_rfl) (by rfl) (fun W' hSw => by go_simp) hHeld ?_
    try simp only [Act.put, List.setIfInBounds_toArray, List.set_cons_zero, List.set_cons_succ]
    refine takeH 18 82 (.agg #[.int .i64 T, .slice a2 P.length c2]) calm_np rfl rfl (by kernel_rfl) (by kernel_rfl) (by kernel_rfl) (by rfl) (fun W' hSw => by have g0 := (show _ = some (Value.int .i64 T) from (HX11.out.below hSw).at 0 rfl); have g1 := (show _ = some (Value.slice a2 P.length c2) from (HX11.out.below hSw).at 1 rfl); have hsz := (HX11.out.below hSw).1; go_simp) hHeld ?_
    try simp only [Act.put, List.setIfInBounds_toArray, List.set_cons_zero, List.set_cons_succ]
    refine takeH 19 83 (.pointer (some ⟨g7, 0, none⟩)) calm_np rfl rfl (by kernel_rfl) (by kernel_rfl) (by kernel_rfl) (by rfl) (fun W' hSw => by go_simp) hHeld ?_
    try simp only [Act.put, List.setIfInBounds_toArray, List.set_cons_zero, List.set_cons_succ]
    refine takeH 20 84 (.agg #[.int .i64 T, .slice a7 P.length c7]) calm_np rfl rfl (by kernel_rfl) (by kernel_rfl) (by kernel_rfl) (by rfl) (fun W' hSw => by have g0 := (show _ = some (Value.int .i64 T) from (HX23.out.below hSw).at 0 rfl); have g1 := (show _ = some (Value.slice a7 P.length c7) from (HX23.out.below hSw).at 1 rfl); have hsz := (HX23.out.below hSw).1; go_simp) hHeld ?_
    try simp only [Act.put, List.setIfInBounds_toArray, List.set_cons_zero, List.set_cons_succ]
    refine wpAnyH_ready (rs := [21]) (by kernel_rfl) (by simp) (AllReadyH.cons rfl (fun K hK => ?_) AllReadyH.nil)
    go_simp
    (with_reducible refine (HLK.out T _ _ P _ (HR11.out.below hHeld) (HR23.out.below hHeld)).mono ?_)
    rintro e V3 ⟨rfl, hz⟩
    have hh := below_trans hHeld hz
    clear hz
    go_simp
    refine hK.out _ _ hh (fun hHeld => ?_)
    clear hK hh
    try simp only [Act.put, List.setIfInBounds_toArray, List.set_cons_zero, List.set_cons_succ]
    refine takeH 22 86 (.bool false) calm_np rfl rfl (by kernel_rfl) (by kernel_rfl) (by kernel_rfl) (by rfl) (fun W' hSw => by go_simp) hHeld ?_
    try simp only [Act.put, List.setIfInBounds_toArray, List.set_cons_zero, List.set_cons_succ]
    refine takeH 23 87 (.bool false) calm_np rfl rfl (by kernel_rfl) (by kernel_rfl) (by kernel_rfl) (by rfl) (fun W' hSw => by go_simp) hHeld ?_
    try simp only [Act.put, List.setIfInBounds_toArray, List.set_cons_zero, List.set_cons_succ]
    refine takeH 24 88 (.bool false) calm_np rfl rfl (by kernel_rfl) (by kernel_rfl) (by kernel_rfl) (by rfl) (fun W' hSw => by go_simp) hHeld ?_
    try simp only [Act.put, List.setIfInBounds_toArray, List.set_cons_zero, List.set_cons_succ]
    refine wpAnyH_ready (rs := [25]) (by kernel_rfl) (by simp) (AllReadyH.cons rfl (fun K hK => ?_) AllReadyH.nil)
    go_simp
    (with_reducible refine (HAL.out _).mono ?_)
    rintro e V4 ⟨rfl, hz⟩
    have hh := below_trans hHeld hz
    clear hz
    go_simp
    refine hK.out _ _ hh (fun hHeld => ?_)
    clear hK hh
    try simp only [Act.put, List.setIfInBounds_toArray, List.set_cons_zero, List.set_cons_succ]
    refine takeH 26 90 (.bool false) calm_np rfl rfl (by kernel_rfl) (by kernel_rfl) (by kernel_rfl) (by rfl) (fun W' hSw => by go_simp) hHeld ?_
    try simp only [Act.put, List.setIfInBounds_toArray, List.set_cons_zero, List.set_cons_succ]
    refine takeH 27 91 (.bool false) calm_np rfl rfl (by kernel_rfl) (by kernel_rfl) (by kernel_rfl) (by rfl) (fun W' hSw => by go_simp) hHeld ?_
    try simp only [Act.put, List.setIfInBounds_toArray, List.set_cons_zero, List.set_cons_succ]
    refine wpAnyH_done (by kernel_rfl) ?_ _
    refine NoPanic.normal ?_
    have HH := Lib.hid hHeld
    clear hHeld
    rename World => v9
    have hz := HH.out
    replace HX5 : Hid (Box (w.heap.size) [.int .i64 t, .slice a l.length cap] v9) := Lib.hid (HX5.out.below hz)
    replace HX11 : Hid (Box (g2) [.int .i64 T, .slice a2 P.length c2] v9) := Lib.hid (HX11.out.below hz)
    replace HX14 : Hid (Box (g3) [.int .i64 TD, .slice a3 D.length c3] v9) := Lib.hid (HX14.out.below hz)
    replace HX15 : Hid (Box (g3 + 1) [.int .i64 dO.y, .int .i64 dO.k, .int .i64 dO.o, .int .i64 dO.d] v9) := Lib.hid (HX15.out.below hz)
    replace HX17 : Hid (Box (g4) [.int .i64 fO.y, .int .i64 fO.k, .int .i64 fO.o, .int .i64 fO.d] v9) := Lib.hid (HX17.out.below hz)
    replace HX19 : Hid (Box (g5) [.int .i64 T9, .slice a5 L9.length c5] v9) := Lib.hid (HX19.out.below hz)
    replace HX22 : Hid (Box (g6) [.int .i64 0, .slice none 0 0] v9) := Lib.hid (HX22.out.below hz)
    replace HX23 : Hid (Box (g7) [.int .i64 T, .slice a7 P.length c7, .int .i64 T, .int .i64 z] v9) := Lib.hid (HX23.out.below hz)
    replace HR5 : Hid (URow v9 (.slice a l.length cap) (l)) := Lib.hid (HR5.out.below hz)
    replace HR11 : Hid (URow v9 (.slice a2 P.length c2) (P)) := Lib.hid (HR11.out.below hz)
    replace HR14 : Hid (URow v9 (.slice a3 D.length c3) (D)) := Lib.hid (HR14.out.below hz)
    replace HR19 : Hid (URow v9 (.slice a5 L9.length c5) (L9)) := Lib.hid (HR19.out.below hz)
    replace HR20 : Hid (URow v9 (.slice a6 M9.length c6) (M9)) := Lib.hid (HR20.out.below hz)
    replace HR23 : Hid (URow v9 (.slice a7 P.length c7) (P)) := Lib.hid (HR23.out.below hz)
    replace HB : Hid (Below w.heap.size w v9) := Lib.hid (below_trans HB.out hz)
    clear hz HH
    obtain ⟨q5_0, q5_1⟩ := box2 HX5.out
    have s5_ := HX5.out.1
    go_wp2_with fail
    (with_reducible refine (HRR.out _ HR5.out).mono ?_)
    rintro e v10 ⟨rfl, hz⟩
    clear q5_0 q5_1 s5_
    replace HX5 : Hid (Box (w.heap.size) [.int .i64 t, .slice a l.length cap] v10) := Lib.hid (HX5.out.below hz)
    replace HX11 : Hid (Box (g2) [.int .i64 T, .slice a2 P.length c2] v10) := Lib.hid (HX11.out.below hz)
    replace HX14 : Hid (Box (g3) [.int .i64 TD, .slice a3 D.length c3] v10) := Lib.hid (HX14.out.below hz)
    replace HX15 : Hid (Box (g3 + 1) [.int .i64 dO.y, .int .i64 dO.k, .int .i64 dO.o, .int .i64 dO.d] v10) := Lib.hid (HX15.out.below hz)
    replace HX17 : Hid (Box (g4) [.int .i64 fO.y, .int .i64 fO.k, .int .i64 fO.o, .int .i64 fO.d] v10) := Lib.hid (HX17.out.below hz)
    replace HX19 : Hid (Box (g5) [.int .i64 T9, .slice a5 L9.length c5] v10) := Lib.hid (HX19.out.below hz)
    replace HX22 : Hid (Box (g6) [.int .i64 0, .slice none 0 0] v10) := Lib.hid (HX22.out.below hz)
    replace HX23 : Hid (Box (g7) [.int .i64 T, .slice a7 P.length c7, .int .i64 T, .int .i64 z] v10) := Lib.hid (HX23.out.below hz)
    replace HR5 : Hid (URow v10 (.slice a l.length cap) (l)) := Lib.hid (HR5.out.below hz)
    replace HR11 : Hid (URow v10 (.slice a2 P.length c2) (P)) := Lib.hid (HR11.out.below hz)
    replace HR14 : Hid (URow v10 (.slice a3 D.length c3) (D)) := Lib.hid (HR14.out.below hz)
    replace HR19 : Hid (URow v10 (.slice a5 L9.length c5) (L9)) := Lib.hid (HR19.out.below hz)
    replace HR20 : Hid (URow v10 (.slice a6 M9.length c6) (M9)) := Lib.hid (HR20.out.below hz)
    replace HR23 : Hid (URow v10 (.slice a7 P.length c7) (P)) := Lib.hid (HR23.out.below hz)
    replace HB : Hid (Below w.heap.size w v10) := Lib.hid (below_trans HB.out hz)
    clear hz
    obtain ⟨e1, e2, e3, e4⟩ := WD.out.1 hr
    obtain ⟨e5, e6⟩ := WF.out.1 hr
    obtain ⟨e7, e8, e9, e10⟩ := WT.out.1 (.inl hr)
    clear WD WF WT
    subst e1 e2 e3 e4 e5 e6 e7 e8 e9 e10
    unfold noT at *
    dsimp only at *
    simp only [List.length_nil] at *
    obtain ⟨q14_0, q14_1⟩ := box2 HX14.out
    have s14_ := HX14.out.1
    obtain ⟨q22_0, q22_1⟩ := box2 HX22.out
    have s22_ := HX22.out.1
    go_wp2_with fail
    (with_reducible refine (HLK.out 0 _ _ [] _ HR14.out (URow.nil _)).mono ?_)
    rintro e v11 ⟨rfl, hz⟩
    clear q14_0 q14_1 s14_ q22_0 q22_1 s22_
    replace HX5 : Hid (Box (w.heap.size) [.int .i64 t, .slice a l.length cap] v11) := Lib.hid (HX5.out.below hz)
    replace HX11 : Hid (Box (g2) [.int .i64 T, .slice a2 P.length c2] v11) := Lib.hid (HX11.out.below hz)
    replace HX14 : Hid (Box (g3) [.int .i64 0, .slice a3 0 c3] v11) := Lib.hid (HX14.out.below hz)
    replace HX15 : Hid (Box (g3 + 1) [.int .i64 0, .int .i64 0, .int .i64 0, .int .i64 0] v11) := Lib.hid (HX15.out.below hz)
    replace HX17 : Hid (Box (g4) [.int .i64 0, .int .i64 0, .int .i64 0, .int .i64 0] v11) := Lib.hid (HX17.out.below hz)
    replace HX19 : Hid (Box (g5) [.int .i64 0, .slice a5 0 c5] v11) := Lib.hid (HX19.out.below hz)
    replace HX22 : Hid (Box (g6) [.int .i64 0, .slice none 0 0] v11) := Lib.hid (HX22.out.below hz)
    replace HX23 : Hid (Box (g7) [.int .i64 T, .slice a7 P.length c7, .int .i64 T, .int .i64 z] v11) := Lib.hid (HX23.out.below hz)
    replace HR5 : Hid (URow v11 (.slice a l.length cap) (l)) := Lib.hid (HR5.out.below hz)
    replace HR11 : Hid (URow v11 (.slice a2 P.length c2) (P)) := Lib.hid (HR11.out.below hz)
    replace HR14 : Hid (URow v11 (.slice a3 0 c3) ([])) := Lib.hid (HR14.out.below hz)
    replace HR19 : Hid (URow v11 (.slice a5 0 c5) ([])) := Lib.hid (HR19.out.below hz)
    replace HR20 : Hid (URow v11 (.slice a6 0 c6) ([])) := Lib.hid (HR20.out.below hz)
    replace HR23 : Hid (URow v11 (.slice a7 P.length c7) (P)) := Lib.hid (HR23.out.below hz)
    replace HB : Hid (Below w.heap.size w v11) := Lib.hid (below_trans HB.out hz)
    clear hz
    obtain ⟨q19_0, q19_1⟩ := box2 HX19.out
    have s19_ := HX19.out.1
    obtain ⟨q22_0, q22_1⟩ := box2 HX22.out
    have s22_ := HX22.out.1
    go_wp2_with fail
    (with_reducible refine (HLK.out 0 _ _ [] _ HR19.out (URow.nil _)).mono ?_)
    rintro e v12 ⟨rfl, hz⟩
    clear q19_0 q19_1 s19_ q22_0 q22_1 s22_
    replace HX5 : Hid (Box (w.heap.size) [.int .i64 t, .slice a l.length cap] v12) := Lib.hid (HX5.out.below hz)
    replace HX11 : Hid (Box (g2) [.int .i64 T, .slice a2 P.length c2] v12) := Lib.hid (HX11.out.below hz)
    replace HX14 : Hid (Box (g3) [.int .i64 0, .slice a3 0 c3] v12) := Lib.hid (HX14.out.below hz)
    replace HX15 : Hid (Box (g3 + 1) [.int .i64 0, .int .i64 0, .int .i64 0, .int .i64 0] v12) := Lib.hid (HX15.out.below hz)
    replace HX17 : Hid (Box (g4) [.int .i64 0, .int .i64 0, .int .i64 0, .int .i64 0] v12) := Lib.hid (HX17.out.below hz)
    replace HX19 : Hid (Box (g5) [.int .i64 0, .slice a5 0 c5] v12) := Lib.hid (HX19.out.below hz)
    replace HX22 : Hid (Box (g6) [.int .i64 0, .slice none 0 0] v12) := Lib.hid (HX22.out.below hz)
    replace HX23 : Hid (Box (g7) [.int .i64 T, .slice a7 P.length c7, .int .i64 T, .int .i64 z] v12) := Lib.hid (HX23.out.below hz)
    replace HR5 : Hid (URow v12 (.slice a l.length cap) (l)) := Lib.hid (HR5.out.below hz)
    replace HR11 : Hid (URow v12 (.slice a2 P.length c2) (P)) := Lib.hid (HR11.out.below hz)
    replace HR14 : Hid (URow v12 (.slice a3 0 c3) ([])) := Lib.hid (HR14.out.below hz)
    replace HR19 : Hid (URow v12 (.slice a5 0 c5) ([])) := Lib.hid (HR19.out.below hz)
    replace HR20 : Hid (URow v12 (.slice a6 0 c6) ([])) := Lib.hid (HR20.out.below hz)
    replace HR23 : Hid (URow v12 (.slice a7 P.length c7) (P)) := Lib.hid (HR23.out.below hz)
    replace HB : Hid (Below w.heap.size w v12) := Lib.hid (below_trans HB.out hz)
    clear hz
    obtain ⟨q15_0, q15_1, q15_2, q15_3⟩ := box4 HX15.out
    have s15_ := HX15.out.1
    obtain ⟨q17_0, q17_1, q17_2, q17_3⟩ := box4 HX17.out
    have s17_ := HX17.out.1
    go_wp2_with fail
    go_ret
    exact ⟨rfl, HB.out⟩
  | true =>
    rw [hr] at HRI HRR
    refine wp_region_noPanic ?_
    refine wp_region_held_drew (S := fun W' => Below w7.heap.size w7 W') (by kernel_rfl) (dr w7) (fun hHeld => ?_)
    try simp only [Act.put, List.setIfInBounds_toArray, List.set_cons_zero, List.set_cons_succ]
    refine takeH 0 64 (.agg #[.int .i64 t, .slice a l.length cap]) calm_np rfl rfl (by kernel_rfl) (by kernel_rfl) (by kernel_rfl) (by rfl) (fun W' hSw => by have g0 := (show _ = some (Value.int .i64 t) from (HX5.out.below hSw).at 0 rfl); have g1 := (show _ = some (Value.slice a l.length cap) from (HX5.out.below hSw).at 1 rfl); have hsz := (HX5.out.below hSw).1; go_simp) hHeld ?_
    try simp only [Act.put, List.setIfInBounds_toArray, List.set_cons_zero, List.set_cons_succ]
    refine takeH 2 66 (.agg #[.int .i64 t, .slice a l.length cap]) calm_np rfl rfl (by kernel_rfl) (by kernel_rfl) (by kernel_rfl) (by rfl) (fun W' hSw => by have g0 := (show _ = some (Value.int .i64 t) from (HX5.out.below hSw).at 0 rfl); have g1 := (show _ = some (Value.slice a l.length cap) from (HX5.out.below hSw).at 1 rfl); have hsz := (HX5.out.below hSw).1; go_simp) hHeld ?_
    try simp only [Act.put, List.setIfInBounds_toArray, List.set_cons_zero, List.set_cons_succ]
    refine wpAnyH_ready (rs := [1]) (by kernel_rfl) (by simp) (AllReadyH.cons rfl (fun K hK => ?_) AllReadyH.nil)
    go_simp
    (with_reducible refine (HRI.out _ (HR5.out.below hHeld)).mono ?_)
    rintro e V1 ⟨rfl, hz⟩
    have hh := below_trans hHeld hz
    clear hz
    go_simp
    refine hK.out _ _ hh (fun hHeld => ?_)
    clear hK hh
    try simp only [Act.put, List.setIfInBounds_toArray, List.set_cons_zero, List.set_cons_succ]
    refine wpAnyH_ready (rs := [3]) (by kernel_rfl) (by simp) (AllReadyH.cons rfl (fun K hK => ?_) AllReadyH.nil)
    go_simp
    (with_reducible refine (HRR.out _ (HR5.out.below hHeld)).mono ?_)
    rintro e V2 ⟨rfl, hz⟩
    have hh := below_trans hHeld hz
    clear hz
    go_simp
    refine hK.out _ _ hh (fun hHeld => ?_)
    clear hK hh
    try simp only [Act.put, List.setIfInBounds_toArray, List.set_cons_zero, List.set_cons_succ]
    refine takeH 4 68 (.bool false) calm_np rfl rfl (by kernel_rfl) (by kernel_rfl) (by kernel_rfl) (by rfl) (fun W' hSw => by go_simp) hHeld ?_
    try simp only [Act.put, List.setIfInBounds_toArray, List.set_cons_zero, List.set_cons_succ]
    refine takeH 5 69 (.bool false) calm_np rfl rfl (by kernel_rfl) (by kernel_rfl) (by kernel_rfl) (by rfl) (fun W' hSw => by go_simp) hHeld ?_
    try simp only [Act.put, List.setIfInBounds_toArray, List.set_cons_zero, List.set_cons_succ]
    refine takeH 6 70 (.int .i64 z) calm_np rfl rfl (by kernel_rfl) (by kernel_rfl) (by kernel_rfl) (by rfl) (fun W' hSw => by go_simp) hHeld ?_
    try simp only [Act.put, List.setIfInBounds_toArray, List.set_cons_zero, List.set_cons_succ]
    refine takeH 7 71 (.pointer (some ⟨g7, 3, none⟩)) calm_np rfl rfl (by kernel_rfl) (by kernel_rfl) (by kernel_rfl) (by rfl) (fun W' hSw => by go_simp) hHeld ?_
    try simp only [Act.put, List.setIfInBounds_toArray, List.set_cons_zero, List.set_cons_succ]
    refine takeH 8 72 (.int .i64 z) calm_np rfl rfl (by kernel_rfl) (by kernel_rfl) (by kernel_rfl) (by rfl) (fun W' hSw => by have g0 := (show _ = some (Value.int .i64 z) from (HX23.out.below hSw).at 3 rfl); have hsz := (HX23.out.below hSw).1; go_simp) hHeld ?_
    try simp only [Act.put, List.setIfInBounds_toArray, List.set_cons_zero, List.set_cons_succ]
    refine takeH 9 73 (.bool false) calm_np rfl rfl (by kernel_rfl) (by kernel_rfl) (by kernel_rfl) (by rfl) (fun W' hSw => by go_simp) hHeld ?_
    try simp only [Act.put, List.setIfInBounds_toArray, List.set_cons_zero, List.set_cons_succ]
    refine takeH 10 74 (.bool false) calm_np rfl rfl (by kernel_rfl) (by kernel_rfl) (by kernel_rfl) (by rfl) (fun W' hSw => by go_simp) hHeld ?_
    try simp only [Act.put, List.setIfInBounds_toArray, List.set_cons_zero, List.set_cons_succ]
    refine takeH 11 75 (.bool false) calm_np rfl rfl (by kernel_rfl) (by kernel_rfl) (by kernel_rfl) (by rfl) (fun W' hSw => by go_simp) hHeld ?_
    try simp only [Act.put, List.setIfInBounds_toArray, List.set_cons_zero, List.set_cons_succ]
    refine takeH 12 76 (.int .i64 T) calm_np rfl rfl (by kernel_rfl) (by kernel_rfl) (by kernel_rfl) (by rfl) (fun W' hSw => by go_simp) hHeld ?_
    try simp only [Act.put, List.setIfInBounds_toArray, List.set_cons_zero, List.set_cons_succ]
    refine takeH 13 77 (.pointer (some ⟨g7, 2, none⟩)) calm_np rfl rfl (by kernel_rfl) (by kernel_rfl) (by kernel_rfl) (by rfl) (fun W' hSw => by go_simp) hHeld ?_
    try simp only [Act.put, List.setIfInBounds_toArray, List.set_cons_zero, List.set_cons_succ]
    refine takeH 14 78 (.int .i64 T) calm_np rfl rfl (by kernel_rfl) (by kernel_rfl) (by kernel_rfl) (by rfl) (fun W' hSw => by have g0 := (show _ = some (Value.int .i64 T) from (HX23.out.below hSw).at 2 rfl); have hsz := (HX23.out.below hSw).1; go_simp) hHeld ?_
    try simp only [Act.put, List.setIfInBounds_toArray, List.set_cons_zero, List.set_cons_succ]
    refine takeH 15 79 (.bool false) calm_np rfl rfl (by kernel_rfl) (by kernel_rfl) (by kernel_rfl) (by rfl) (fun W' hSw => by go_simp) hHeld ?_
    try simp only [Act.put, List.setIfInBounds_toArray, List.set_cons_zero, List.set_cons_succ]
    refine takeH 16 80 (.bool false) calm_np rfl rfl (by kernel_rfl) (by kernel_rfl) (by kernel_rfl) (by rfl) (fun W' hSw => by go_simp) hHeld ?_
    try simp only [Act.put, List.setIfInBounds_toArray, List.set_cons_zero, List.set_cons_succ]
    refine takeH 17 81 (.bool false) calm_np rfl rfl (by kernel_rfl) (by kernel_rfl) (by kernel_rfl) (by rfl) (fun W' hSw => by go_simp) hHeld ?_
    try simp only [Act.put, List.setIfInBounds_toArray, List.set_cons_zero, List.set_cons_succ]
    refine takeH 18 82 (.agg #[.int .i64 T, .slice a2 P.length c2]) calm_np rfl rfl (by kernel_rfl) (by kernel_rfl) (by kernel_rfl) (by rfl) (fun W' hSw => by have g0 := (show _ = some (Value.int .i64 T) from (HX11.out.below hSw).at 0 rfl); have g1 := (show _ = some (Value.slice a2 P.length c2) from (HX11.out.below hSw).at 1 rfl); have hsz := (HX11.out.below hSw).1; go_simp) hHeld ?_
    try simp only [Act.put, List.setIfInBounds_toArray, List.set_cons_zero, List.set_cons_succ]
    refine takeH 19 83 (.pointer (some ⟨g7, 0, none⟩)) calm_np rfl rfl (by kernel_rfl) (by kernel_rfl) (by kernel_rfl) (by rfl) (fun W' hSw => by go_simp) hHeld ?_
    try simp only [Act.put, List.setIfInBounds_toArray, List.set_cons_zero, List.set_cons_succ]
    refine takeH 20 84 (.agg #[.int .i64 T, .slice a7 P.length c7]) calm_np rfl rfl (by kernel_rfl) (by kernel_rfl) (by kernel_rfl) (by rfl) (fun W' hSw => by have g0 := (show _ = some (Value.int .i64 T) from (HX23.out.below hSw).at 0 rfl); have g1 := (show _ = some (Value.slice a7 P.length c7) from (HX23.out.below hSw).at 1 rfl); have hsz := (HX23.out.below hSw).1; go_simp) hHeld ?_
    try simp only [Act.put, List.setIfInBounds_toArray, List.set_cons_zero, List.set_cons_succ]
    refine wpAnyH_ready (rs := [21]) (by kernel_rfl) (by simp) (AllReadyH.cons rfl (fun K hK => ?_) AllReadyH.nil)
    go_simp
    (with_reducible refine (HLK.out T _ _ P _ (HR11.out.below hHeld) (HR23.out.below hHeld)).mono ?_)
    rintro e V3 ⟨rfl, hz⟩
    have hh := below_trans hHeld hz
    clear hz
    go_simp
    refine hK.out _ _ hh (fun hHeld => ?_)
    clear hK hh
    try simp only [Act.put, List.setIfInBounds_toArray, List.set_cons_zero, List.set_cons_succ]
    refine takeH 22 86 (.bool false) calm_np rfl rfl (by kernel_rfl) (by kernel_rfl) (by kernel_rfl) (by rfl) (fun W' hSw => by go_simp) hHeld ?_
    try simp only [Act.put, List.setIfInBounds_toArray, List.set_cons_zero, List.set_cons_succ]
    refine takeH 23 87 (.bool false) calm_np rfl rfl (by kernel_rfl) (by kernel_rfl) (by kernel_rfl) (by rfl) (fun W' hSw => by go_simp) hHeld ?_
    try simp only [Act.put, List.setIfInBounds_toArray, List.set_cons_zero, List.set_cons_succ]
    refine takeH 24 88 (.bool false) calm_np rfl rfl (by kernel_rfl) (by kernel_rfl) (by kernel_rfl) (by rfl) (fun W' hSw => by go_simp) hHeld ?_
    try simp only [Act.put, List.setIfInBounds_toArray, List.set_cons_zero, List.set_cons_succ]
    refine wpAnyH_ready (rs := [25]) (by kernel_rfl) (by simp) (AllReadyH.cons rfl (fun K hK => ?_) AllReadyH.nil)
    go_simp
    (with_reducible refine (HAL.out _).mono ?_)
    rintro e V4 ⟨rfl, hz⟩
    have hh := below_trans hHeld hz
    clear hz
    go_simp
    refine hK.out _ _ hh (fun hHeld => ?_)
    clear hK hh
    try simp only [Act.put, List.setIfInBounds_toArray, List.set_cons_zero, List.set_cons_succ]
    refine takeH 26 90 (.bool false) calm_np rfl rfl (by kernel_rfl) (by kernel_rfl) (by kernel_rfl) (by rfl) (fun W' hSw => by go_simp) hHeld ?_
    try simp only [Act.put, List.setIfInBounds_toArray, List.set_cons_zero, List.set_cons_succ]
    refine takeH 27 91 (.bool false) calm_np rfl rfl (by kernel_rfl) (by kernel_rfl) (by kernel_rfl) (by rfl) (fun W' hSw => by go_simp) hHeld ?_
    try simp only [Act.put, List.setIfInBounds_toArray, List.set_cons_zero, List.set_cons_succ]
    refine wpAnyH_done (by kernel_rfl) ?_ _
    refine NoPanic.normal ?_
    have HH := Lib.hid hHeld
    clear hHeld
    rename World => v9
    have hz := HH.out
    replace HX5 : Hid (Box (w.heap.size) [.int .i64 t, .slice a l.length cap] v9) := Lib.hid (HX5.out.below hz)
    replace HX11 : Hid (Box (g2) [.int .i64 T, .slice a2 P.length c2] v9) := Lib.hid (HX11.out.below hz)
    replace HX14 : Hid (Box (g3) [.int .i64 TD, .slice a3 D.length c3] v9) := Lib.hid (HX14.out.below hz)
    replace HX15 : Hid (Box (g3 + 1) [.int .i64 dO.y, .int .i64 dO.k, .int .i64 dO.o, .int .i64 dO.d] v9) := Lib.hid (HX15.out.below hz)
    replace HX17 : Hid (Box (g4) [.int .i64 fO.y, .int .i64 fO.k, .int .i64 fO.o, .int .i64 fO.d] v9) := Lib.hid (HX17.out.below hz)
    replace HX19 : Hid (Box (g5) [.int .i64 T9, .slice a5 L9.length c5] v9) := Lib.hid (HX19.out.below hz)
    replace HX22 : Hid (Box (g6) [.int .i64 0, .slice none 0 0] v9) := Lib.hid (HX22.out.below hz)
    replace HX23 : Hid (Box (g7) [.int .i64 T, .slice a7 P.length c7, .int .i64 T, .int .i64 z] v9) := Lib.hid (HX23.out.below hz)
    replace HR5 : Hid (URow v9 (.slice a l.length cap) (l)) := Lib.hid (HR5.out.below hz)
    replace HR11 : Hid (URow v9 (.slice a2 P.length c2) (P)) := Lib.hid (HR11.out.below hz)
    replace HR14 : Hid (URow v9 (.slice a3 D.length c3) (D)) := Lib.hid (HR14.out.below hz)
    replace HR19 : Hid (URow v9 (.slice a5 L9.length c5) (L9)) := Lib.hid (HR19.out.below hz)
    replace HR20 : Hid (URow v9 (.slice a6 M9.length c6) (M9)) := Lib.hid (HR20.out.below hz)
    replace HR23 : Hid (URow v9 (.slice a7 P.length c7) (P)) := Lib.hid (HR23.out.below hz)
    replace HB : Hid (Below w.heap.size w v9) := Lib.hid (below_trans HB.out hz)
    clear hz HH
    obtain ⟨q5_0, q5_1⟩ := box2 HX5.out
    have s5_ := HX5.out.1
    go_wp2_with fail
    (with_reducible refine (HRR.out _ HR5.out).mono ?_)
    rintro e v10 ⟨rfl, hz⟩
    clear q5_0 q5_1 s5_
    replace HX5 : Hid (Box (w.heap.size) [.int .i64 t, .slice a l.length cap] v10) := Lib.hid (HX5.out.below hz)
    replace HX11 : Hid (Box (g2) [.int .i64 T, .slice a2 P.length c2] v10) := Lib.hid (HX11.out.below hz)
    replace HX14 : Hid (Box (g3) [.int .i64 TD, .slice a3 D.length c3] v10) := Lib.hid (HX14.out.below hz)
    replace HX15 : Hid (Box (g3 + 1) [.int .i64 dO.y, .int .i64 dO.k, .int .i64 dO.o, .int .i64 dO.d] v10) := Lib.hid (HX15.out.below hz)
    replace HX17 : Hid (Box (g4) [.int .i64 fO.y, .int .i64 fO.k, .int .i64 fO.o, .int .i64 fO.d] v10) := Lib.hid (HX17.out.below hz)
    replace HX19 : Hid (Box (g5) [.int .i64 T9, .slice a5 L9.length c5] v10) := Lib.hid (HX19.out.below hz)
    replace HX22 : Hid (Box (g6) [.int .i64 0, .slice none 0 0] v10) := Lib.hid (HX22.out.below hz)
    replace HX23 : Hid (Box (g7) [.int .i64 T, .slice a7 P.length c7, .int .i64 T, .int .i64 z] v10) := Lib.hid (HX23.out.below hz)
    replace HR5 : Hid (URow v10 (.slice a l.length cap) (l)) := Lib.hid (HR5.out.below hz)
    replace HR11 : Hid (URow v10 (.slice a2 P.length c2) (P)) := Lib.hid (HR11.out.below hz)
    replace HR14 : Hid (URow v10 (.slice a3 D.length c3) (D)) := Lib.hid (HR14.out.below hz)
    replace HR19 : Hid (URow v10 (.slice a5 L9.length c5) (L9)) := Lib.hid (HR19.out.below hz)
    replace HR20 : Hid (URow v10 (.slice a6 M9.length c6) (M9)) := Lib.hid (HR20.out.below hz)
    replace HR23 : Hid (URow v10 (.slice a7 P.length c7) (P)) := Lib.hid (HR23.out.below hz)
    replace HB : Hid (Below w.heap.size w v10) := Lib.hid (below_trans HB.out hz)
    clear hz
    have wf := WF.out.2 hr
    have wd := WD.out.2 hr
    have wt1 := WT.out.1
    have wt2 := WT.out.2
    rw [hr] at wt1 wt2
    clear WF WD WT hr HRR HRI
    generalize fst (ofB kd od) l = xf at *
    generalize fst (keyB ky) l = xg at *
    have WD := Lib.hid wd
    have WT1 := Lib.hid wt1
    have WT2 := Lib.hid wt2
    clear wd wt1 wt2
    have WF := Lib.hid wf
    clear wf
    obtain ⟨q5_0, q5_1⟩ := box2 HX5.out
    have s5_ := HX5.out.1
    go_wp2_with fail
    (with_reducible refine (HRF.out _ HR5.out).mono ?_)
    rintro e v11 ⟨rfl, hz⟩
    unfold uv
    clear q5_0 q5_1 s5_
    obtain ⟨w11, hw11⟩ : ∃ W, (v11.alloc (.cells #[.int .i64 xf.y, .int .i64 xf.k, .int .i64 xf.o, .int .i64 xf.d] 30)) = W := ⟨_, rfl⟩
    have hal : Below v11.heap.size v11 w11 := hw11 ▸ al v11 _
    have HX24 : Hid (Box v11.heap.size [.int .i64 xf.y, .int .i64 xf.k, .int .i64 xf.o, .int .i64 xf.d] w11) := Lib.hid (hw11 ▸ Box.made v11 [.int .i64 xf.y, .int .i64 xf.k, .int .i64 xf.o, .int .i64 xf.d] 30)
    have hz2 : Below v10.heap.size v10 w11 := below_trans hz hal
    replace HX5 : Hid (Box (w.heap.size) [.int .i64 t, .slice a l.length cap] w11) := Lib.hid (HX5.out.below hz2)
    replace HX11 : Hid (Box (g2) [.int .i64 T, .slice a2 P.length c2] w11) := Lib.hid (HX11.out.below hz2)
    replace HX14 : Hid (Box (g3) [.int .i64 TD, .slice a3 D.length c3] w11) := Lib.hid (HX14.out.below hz2)
    replace HX15 : Hid (Box (g3 + 1) [.int .i64 dO.y, .int .i64 dO.k, .int .i64 dO.o, .int .i64 dO.d] w11) := Lib.hid (HX15.out.below hz2)
    replace HX17 : Hid (Box (g4) [.int .i64 fO.y, .int .i64 fO.k, .int .i64 fO.o, .int .i64 fO.d] w11) := Lib.hid (HX17.out.below hz2)
    replace HX19 : Hid (Box (g5) [.int .i64 T9, .slice a5 L9.length c5] w11) := Lib.hid (HX19.out.below hz2)
    replace HX22 : Hid (Box (g6) [.int .i64 0, .slice none 0 0] w11) := Lib.hid (HX22.out.below hz2)
    replace HX23 : Hid (Box (g7) [.int .i64 T, .slice a7 P.length c7, .int .i64 T, .int .i64 z] w11) := Lib.hid (HX23.out.below hz2)
    replace HR5 : Hid (URow w11 (.slice a l.length cap) (l)) := Lib.hid (HR5.out.below hz2)
    replace HR11 : Hid (URow w11 (.slice a2 P.length c2) (P)) := Lib.hid (HR11.out.below hz2)
    replace HR14 : Hid (URow w11 (.slice a3 D.length c3) (D)) := Lib.hid (HR14.out.below hz2)
    replace HR19 : Hid (URow w11 (.slice a5 L9.length c5) (L9)) := Lib.hid (HR19.out.below hz2)
    replace HR20 : Hid (URow w11 (.slice a6 M9.length c6) (M9)) := Lib.hid (HR20.out.below hz2)
    replace HR23 : Hid (URow w11 (.slice a7 P.length c7) (P)) := Lib.hid (HR23.out.below hz2)
    replace HB : Hid (Below w.heap.size w w11) := Lib.hid (below_trans HB.out hz2)
    clear hz hz2 hal
    go_upto_region 13 with (fail)
    try rw [hw11]
    clear hw11
    generalize v11.heap.size = g11 at *
    rcases WF.out with ⟨e1, e2, e3⟩ | ⟨e1, e2, e3⟩
    · subst e1 e2 e3
      replace HX17 : Hid (Box (g4) [.int .i64 0, .int .i64 0, .int .i64 0, .int .i64 0] _) := HX17
      replace HX24 : Hid (Box (g11) [.int .i64 0, .int .i64 0, .int .i64 0, .int .i64 0] _) := HX24
      obtain ⟨q17_0, q17_1, q17_2, q17_3⟩ := box4 HX17.out
      have s17_ := HX17.out.1
      obtain ⟨q24_0, q24_1, q24_2, q24_3⟩ := box4 HX24.out
      have s24_ := HX24.out.1
      clear WF
      go_upto_region 15 with (fail)
      clear q17_0 q17_1 q17_2 q17_3 s17_ q24_0 q24_1 q24_2 q24_3 s24_
      by_cases t1 : nw < 0
      · obtain ⟨e7, e8, e9, e10⟩ := WT1.out (.inr (fun h => by have h0 := h.1; have h1 := h.2; omega))
        subst e7 e8 e9 e10
        simp only [List.length_nil] at *
        clear WT1 WT2
        obtain ⟨q19_0, q19_1⟩ := box2 HX19.out
        have s19_ := HX19.out.1
        obtain ⟨q22_0, q22_1⟩ := box2 HX22.out
        have s22_ := HX22.out.1
        go_wp2_with fail
        (with_reducible refine (HLK.out 0 _ _ [] _ HR19.out (URow.nil _)).mono ?_)
        rintro e v12 ⟨rfl, hz⟩
        clear q19_0 q19_1 s19_ q22_0 q22_1 s22_
        replace HX5 : Hid (Box (w.heap.size) [.int .i64 t, .slice a l.length cap] v12) := Lib.hid (HX5.out.below hz)
        replace HX11 : Hid (Box (g2) [.int .i64 T, .slice a2 P.length c2] v12) := Lib.hid (HX11.out.below hz)
        replace HX14 : Hid (Box (g3) [.int .i64 TD, .slice a3 D.length c3] v12) := Lib.hid (HX14.out.below hz)
        replace HX15 : Hid (Box (g3 + 1) [.int .i64 dO.y, .int .i64 dO.k, .int .i64 dO.o, .int .i64 dO.d] v12) := Lib.hid (HX15.out.below hz)
        replace HX17 : Hid (Box (g4) [.int .i64 0, .int .i64 0, .int .i64 0, .int .i64 0] v12) := Lib.hid (HX17.out.below hz)
        replace HX19 : Hid (Box (g5) [.int .i64 0, .slice a5 0 c5] v12) := Lib.hid (HX19.out.below hz)
        replace HX22 : Hid (Box (g6) [.int .i64 0, .slice none 0 0] v12) := Lib.hid (HX22.out.below hz)
        replace HX23 : Hid (Box (g7) [.int .i64 T, .slice a7 P.length c7, .int .i64 T, .int .i64 z] v12) := Lib.hid (HX23.out.below hz)
        replace HX24 : Hid (Box (g11) [.int .i64 0, .int .i64 0, .int .i64 0, .int .i64 0] v12) := Lib.hid (HX24.out.below hz)
        replace HR5 : Hid (URow v12 (.slice a l.length cap) (l)) := Lib.hid (HR5.out.below hz)
        replace HR11 : Hid (URow v12 (.slice a2 P.length c2) (P)) := Lib.hid (HR11.out.below hz)
        replace HR14 : Hid (URow v12 (.slice a3 D.length c3) (D)) := Lib.hid (HR14.out.below hz)
        replace HR19 : Hid (URow v12 (.slice a5 0 c5) ([])) := Lib.hid (HR19.out.below hz)
        replace HR20 : Hid (URow v12 (.slice a6 0 c6) ([])) := Lib.hid (HR20.out.below hz)
        replace HR23 : Hid (URow v12 (.slice a7 P.length c7) (P)) := Lib.hid (HR23.out.below hz)
        replace HB : Hid (Below w.heap.size w v12) := Lib.hid (below_trans HB.out hz)
        clear hz
        obtain ⟨q5_0, q5_1⟩ := box2 HX5.out
        have s5_ := HX5.out.1
        go_wp2_with fail
        (with_reducible refine (HRG.out _ HR5.out).mono ?_)
        rintro e v13 ⟨rfl, hz⟩
        unfold uv
        clear q5_0 q5_1 s5_
        obtain ⟨w13, hw13⟩ : ∃ W, (v13.alloc (.cells #[.int .i64 xg.y, .int .i64 xg.k, .int .i64 xg.o, .int .i64 xg.d] 30)) = W := ⟨_, rfl⟩
        have hal : Below v13.heap.size v13 w13 := hw13 ▸ al v13 _
        have HX25 : Hid (Box v13.heap.size [.int .i64 xg.y, .int .i64 xg.k, .int .i64 xg.o, .int .i64 xg.d] w13) := Lib.hid (hw13 ▸ Box.made v13 [.int .i64 xg.y, .int .i64 xg.k, .int .i64 xg.o, .int .i64 xg.d] 30)
        have hz2 : Below v12.heap.size v12 w13 := below_trans hz hal
        replace HX5 : Hid (Box (w.heap.size) [.int .i64 t, .slice a l.length cap] w13) := Lib.hid (HX5.out.below hz2)
        replace HX11 : Hid (Box (g2) [.int .i64 T, .slice a2 P.length c2] w13) := Lib.hid (HX11.out.below hz2)
        replace HX14 : Hid (Box (g3) [.int .i64 TD, .slice a3 D.length c3] w13) := Lib.hid (HX14.out.below hz2)
        replace HX15 : Hid (Box (g3 + 1) [.int .i64 dO.y, .int .i64 dO.k, .int .i64 dO.o, .int .i64 dO.d] w13) := Lib.hid (HX15.out.below hz2)
        replace HX17 : Hid (Box (g4) [.int .i64 0, .int .i64 0, .int .i64 0, .int .i64 0] w13) := Lib.hid (HX17.out.below hz2)
        replace HX19 : Hid (Box (g5) [.int .i64 0, .slice a5 0 c5] w13) := Lib.hid (HX19.out.below hz2)
        replace HX22 : Hid (Box (g6) [.int .i64 0, .slice none 0 0] w13) := Lib.hid (HX22.out.below hz2)
        replace HX23 : Hid (Box (g7) [.int .i64 T, .slice a7 P.length c7, .int .i64 T, .int .i64 z] w13) := Lib.hid (HX23.out.below hz2)
        replace HX24 : Hid (Box (g11) [.int .i64 0, .int .i64 0, .int .i64 0, .int .i64 0] w13) := Lib.hid (HX24.out.below hz2)
        replace HR5 : Hid (URow w13 (.slice a l.length cap) (l)) := Lib.hid (HR5.out.below hz2)
        replace HR11 : Hid (URow w13 (.slice a2 P.length c2) (P)) := Lib.hid (HR11.out.below hz2)
        replace HR14 : Hid (URow w13 (.slice a3 D.length c3) (D)) := Lib.hid (HR14.out.below hz2)
        replace HR19 : Hid (URow w13 (.slice a5 0 c5) ([])) := Lib.hid (HR19.out.below hz2)
        replace HR20 : Hid (URow w13 (.slice a6 0 c6) ([])) := Lib.hid (HR20.out.below hz2)
        replace HR23 : Hid (URow w13 (.slice a7 P.length c7) (P)) := Lib.hid (HR23.out.below hz2)
        replace HB : Hid (Below w.heap.size w w13) := Lib.hid (below_trans HB.out hz2)
        clear hz hz2 hal
        go_upto_region 21 with (fail)
        try rw [hw13]
        clear hw13
        generalize v13.heap.size = g13 at *
        rcases WD.out with ⟨e1, e2, e3, e4, e5⟩ | ⟨e1, e2, e3, e4, e5⟩
        · subst e1 e2 e3 e4 e5
          simp only [List.length_nil] at *
          replace HX15 : Hid (Box (g3 + 1) [.int .i64 0, .int .i64 0, .int .i64 0, .int .i64 0] _) := HX15
          replace HX25 : Hid (Box (g13) [.int .i64 0, .int .i64 0, .int .i64 0, .int .i64 0] _) := HX25
          obtain ⟨q25_0, q25_1, q25_2, q25_3⟩ := box4 HX25.out
          have s25_ := HX25.out.1
          obtain ⟨q15_0, q15_1, q15_2, q15_3⟩ := box4 HX15.out
          have s15_ := HX15.out.1
          obtain ⟨q14_0, q14_1⟩ := box2 HX14.out
          have s14_ := HX14.out.1
          obtain ⟨q22_0, q22_1⟩ := box2 HX22.out
          have s22_ := HX22.out.1
          go_wp2_with fail
          (with_reducible refine (HLK.out 0 _ _ [] _ HR14.out (URow.nil _)).mono ?_)
          rintro e v14 ⟨rfl, hz⟩
          clear q25_0 q25_1 q25_2 q25_3 s25_ q15_0 q15_1 q15_2 q15_3 s15_ q14_0 q14_1 s14_ q22_0 q22_1 s22_
          replace HX5 : Hid (Box (w.heap.size) [.int .i64 t, .slice a l.length cap] v14) := Lib.hid (HX5.out.below hz)
          replace HX11 : Hid (Box (g2) [.int .i64 T, .slice a2 P.length c2] v14) := Lib.hid (HX11.out.below hz)
          replace HX14 : Hid (Box (g3) [.int .i64 0, .slice a3 0 c3] v14) := Lib.hid (HX14.out.below hz)
          replace HX15 : Hid (Box (g3 + 1) [.int .i64 0, .int .i64 0, .int .i64 0, .int .i64 0] v14) := Lib.hid (HX15.out.below hz)
          replace HX17 : Hid (Box (g4) [.int .i64 0, .int .i64 0, .int .i64 0, .int .i64 0] v14) := Lib.hid (HX17.out.below hz)
          replace HX19 : Hid (Box (g5) [.int .i64 0, .slice a5 0 c5] v14) := Lib.hid (HX19.out.below hz)
          replace HX22 : Hid (Box (g6) [.int .i64 0, .slice none 0 0] v14) := Lib.hid (HX22.out.below hz)
          replace HX23 : Hid (Box (g7) [.int .i64 T, .slice a7 P.length c7, .int .i64 T, .int .i64 z] v14) := Lib.hid (HX23.out.below hz)
          replace HX24 : Hid (Box (g11) [.int .i64 0, .int .i64 0, .int .i64 0, .int .i64 0] v14) := Lib.hid (HX24.out.below hz)
          replace HX25 : Hid (Box (g13) [.int .i64 0, .int .i64 0, .int .i64 0, .int .i64 0] v14) := Lib.hid (HX25.out.below hz)
          replace HR5 : Hid (URow v14 (.slice a l.length cap) (l)) := Lib.hid (HR5.out.below hz)
          replace HR11 : Hid (URow v14 (.slice a2 P.length c2) (P)) := Lib.hid (HR11.out.below hz)
          replace HR14 : Hid (URow v14 (.slice a3 0 c3) ([])) := Lib.hid (HR14.out.below hz)
          replace HR19 : Hid (URow v14 (.slice a5 0 c5) ([])) := Lib.hid (HR19.out.below hz)
          replace HR20 : Hid (URow v14 (.slice a6 0 c6) ([])) := Lib.hid (HR20.out.below hz)
          replace HR23 : Hid (URow v14 (.slice a7 P.length c7) (P)) := Lib.hid (HR23.out.below hz)
          replace HB : Hid (Below w.heap.size w v14) := Lib.hid (below_trans HB.out hz)
          clear hz
          go_wp2_with fail
          go_ret
          exact ⟨rfl, HB.out⟩
        · replace e3 := e3.symm
          replace e4 := e4.symm
          subst e1 e2 e3 e4
          have e6 : (xg.y == 0) = false := by simpa using e5
          obtain ⟨q25_0, q25_1, q25_2, q25_3⟩ := box4 HX25.out
          have s25_ := HX25.out.1
          clear e5
          go_upto_region 23 with (fail)
          clear q25_0 q25_1 q25_2 q25_3 s25_
          refine wp_region_noPanic ?_
          refine wp_region_held_drew (S := fun W' => Below w13.heap.size w13 W') (by kernel_rfl) (dr w13) (fun hHeld => ?_)
          try simp only [Act.put, List.setIfInBounds_toArray, List.set_cons_zero, List.set_cons_succ]
          refine takeH 0 210 (.int .i64 0) calm_np rfl rfl (by kernel_rfl) (by kernel_rfl) (by kernel_rfl) (by rfl) (fun W' hSw => by go_simp) hHeld ?_
          try simp only [Act.put, List.setIfInBounds_toArray, List.set_cons_zero, List.set_cons_succ]
          refine takeH 1 211 (.bool true) calm_np rfl rfl (by kernel_rfl) (by kernel_rfl) (by kernel_rfl) (by rfl) (fun W' hSw => by go_simp) hHeld ?_
          try simp only [Act.put, List.setIfInBounds_toArray, List.set_cons_zero, List.set_cons_succ]
          refine takeH 2 212 (.bool true) calm_np rfl rfl (by kernel_rfl) (by kernel_rfl) (by kernel_rfl) (by rfl) (fun W' hSw => by go_simp) hHeld ?_
          try simp only [Act.put, List.setIfInBounds_toArray, List.set_cons_zero, List.set_cons_succ]
          refine takeH 3 213 (.agg #[.int .i64 xg.y, .int .i64 xg.k, .int .i64 xg.o, .int .i64 xg.d]) calm_np rfl rfl (by kernel_rfl) (by kernel_rfl) (by kernel_rfl) (by rfl) (fun W' hSw => by have g0 := (show _ = some (Value.int .i64 xg.y) from (HX15.out.below hSw).at 0 rfl); have g1 := (show _ = some (Value.int .i64 xg.k) from (HX15.out.below hSw).at 1 rfl); have g2 := (show _ = some (Value.int .i64 xg.o) from (HX15.out.below hSw).at 2 rfl); have g3 := (show _ = some (Value.int .i64 xg.d) from (HX15.out.below hSw).at 3 rfl); have hsz := (HX15.out.below hSw).1; go_simp) hHeld ?_
          try simp only [Act.put, List.setIfInBounds_toArray, List.set_cons_zero, List.set_cons_succ]
          refine takeH 4 214 (.agg #[.int .i64 xg.y, .int .i64 xg.k, .int .i64 xg.o, .int .i64 xg.d]) calm_np rfl rfl (by kernel_rfl) (by kernel_rfl) (by kernel_rfl) (by rfl) (fun W' hSw => by have g0 := (show _ = some (Value.int .i64 xg.y) from (HX25.out.below hSw).at 0 rfl); have g1 := (show _ = some (Value.int .i64 xg.k) from (HX25.out.below hSw).at 1 rfl); have g2 := (show _ = some (Value.int .i64 xg.o) from (HX25.out.below hSw).at 2 rfl); have g3 := (show _ = some (Value.int .i64 xg.d) from (HX25.out.below hSw).at 3 rfl); have hsz := (HX25.out.below hSw).1; go_simp) hHeld ?_
          try simp only [Act.put, List.setIfInBounds_toArray, List.set_cons_zero, List.set_cons_succ]
          refine takeH 5 215 (.bool true) calm_np rfl rfl (by kernel_rfl) (by kernel_rfl) (by kernel_rfl) (by rfl) (fun W' hSw => by go_simp) hHeld ?_
          try simp only [Act.put, List.setIfInBounds_toArray, List.set_cons_zero, List.set_cons_succ]
          refine takeH 6 216 (.bool true) calm_np rfl rfl (by kernel_rfl) (by kernel_rfl) (by kernel_rfl) (by rfl) (fun W' hSw => by go_simp) hHeld ?_
          try simp only [Act.put, List.setIfInBounds_toArray, List.set_cons_zero, List.set_cons_succ]
          refine takeH 7 217 (.bool true) calm_np rfl rfl (by kernel_rfl) (by kernel_rfl) (by kernel_rfl) (by rfl) (fun W' hSw => by go_simp) hHeld ?_
          try simp only [Act.put, List.setIfInBounds_toArray, List.set_cons_zero, List.set_cons_succ]
          refine takeH 8 218 (.agg #[.int .i64 t, .slice a3 (done l ky).length c3]) calm_np rfl rfl (by kernel_rfl) (by kernel_rfl) (by kernel_rfl) (by rfl) (fun W' hSw => by have g0 := (show _ = some (Value.int .i64 t) from (HX14.out.below hSw).at 0 rfl); have g1 := (show _ = some (Value.slice a3 (done l ky).length c3) from (HX14.out.below hSw).at 1 rfl); have hsz := (HX14.out.below hSw).1; go_simp) hHeld ?_
          try simp only [Act.put, List.setIfInBounds_toArray, List.set_cons_zero, List.set_cons_succ]
          refine takeH 9 219 (.agg #[.int .i64 t, .slice a l.length cap]) calm_np rfl rfl (by kernel_rfl) (by kernel_rfl) (by kernel_rfl) (by rfl) (fun W' hSw => by have g0 := (show _ = some (Value.int .i64 t) from (HX5.out.below hSw).at 0 rfl); have g1 := (show _ = some (Value.slice a l.length cap) from (HX5.out.below hSw).at 1 rfl); have hsz := (HX5.out.below hSw).1; go_simp) hHeld ?_
          try simp only [Act.put, List.setIfInBounds_toArray, List.set_cons_zero, List.set_cons_succ]
          refine takeH 10 220 (.int .i64 ky) calm_np rfl rfl (by kernel_rfl) (by kernel_rfl) (by kernel_rfl) (by rfl) (fun W' hSw => by go_simp) hHeld ?_
          try simp only [Act.put, List.setIfInBounds_toArray, List.set_cons_zero, List.set_cons_succ]
          refine wpAnyH_ready (rs := [11]) (by kernel_rfl) (by simp) (AllReadyH.cons rfl (fun K hK => ?_) AllReadyH.nil)
          go_simp
          (with_reducible refine (HRD.out _ (HR5.out.below hHeld)).mono ?_)
          rintro e V1 ⟨ud, rfl, hod, hz⟩
          unfold bv
          obtain ⟨ad, cd, rfl⟩ : ∃ a c, ud = .slice a (done l ky).length c := hod.row.slice
          have hh := below_trans hHeld hz
          clear hz
          go_simp
          refine hK.out _ _ hh (fun hHeld => ?_)
          clear hK hh
          try simp only [Act.put, List.setIfInBounds_toArray, List.set_cons_zero, List.set_cons_succ]
          refine wpAnyH_ready (rs := [12]) (by kernel_rfl) (by simp) (AllReadyH.cons rfl (fun K hK => ?_) AllReadyH.nil)
          go_simp
          (with_reducible refine (HLK.out t _ _ (done l ky) _ (HR14.out.below hHeld) hod.row).mono ?_)
          rintro e V2 ⟨rfl, hz⟩
          have hh := below_trans hHeld hz
          clear hz
          go_simp
          refine hK.out _ _ hh (fun hHeld => ?_)
          clear hK hh
          try simp only [Act.put, List.setIfInBounds_toArray, List.set_cons_zero, List.set_cons_succ]
          refine takeH 13 223 (.bool true) calm_np rfl rfl (by kernel_rfl) (by kernel_rfl) (by kernel_rfl) (by rfl) (fun W' hSw => by go_simp) hHeld ?_
          try simp only [Act.put, List.setIfInBounds_toArray, List.set_cons_zero, List.set_cons_succ]
          refine takeH 14 10 (.bool true) calm_np rfl rfl (by kernel_rfl) (by kernel_rfl) (by kernel_rfl) (by rfl) (fun W' hSw => by go_simp) hHeld ?_
          try simp only [Act.put, List.setIfInBounds_toArray, List.set_cons_zero, List.set_cons_succ]
          refine wpAnyH_done (by kernel_rfl) ?_ _
          refine NoPanic.normal ?_
          have HH := Lib.hid hHeld
          clear hHeld
          rename World => v15
          have hz := HH.out
          replace HX5 : Hid (Box (w.heap.size) [.int .i64 t, .slice a l.length cap] v15) := Lib.hid (HX5.out.below hz)
          replace HX11 : Hid (Box (g2) [.int .i64 T, .slice a2 P.length c2] v15) := Lib.hid (HX11.out.below hz)
          replace HX14 : Hid (Box (g3) [.int .i64 t, .slice a3 (done l ky).length c3] v15) := Lib.hid (HX14.out.below hz)
          replace HX15 : Hid (Box (g3 + 1) [.int .i64 xg.y, .int .i64 xg.k, .int .i64 xg.o, .int .i64 xg.d] v15) := Lib.hid (HX15.out.below hz)
          replace HX17 : Hid (Box (g4) [.int .i64 0, .int .i64 0, .int .i64 0, .int .i64 0] v15) := Lib.hid (HX17.out.below hz)
          replace HX19 : Hid (Box (g5) [.int .i64 0, .slice a5 0 c5] v15) := Lib.hid (HX19.out.below hz)
          replace HX22 : Hid (Box (g6) [.int .i64 0, .slice none 0 0] v15) := Lib.hid (HX22.out.below hz)
          replace HX23 : Hid (Box (g7) [.int .i64 T, .slice a7 P.length c7, .int .i64 T, .int .i64 z] v15) := Lib.hid (HX23.out.below hz)
          replace HX24 : Hid (Box (g11) [.int .i64 0, .int .i64 0, .int .i64 0, .int .i64 0] v15) := Lib.hid (HX24.out.below hz)
          replace HX25 : Hid (Box (g13) [.int .i64 xg.y, .int .i64 xg.k, .int .i64 xg.o, .int .i64 xg.d] v15) := Lib.hid (HX25.out.below hz)
          replace HR5 : Hid (URow v15 (.slice a l.length cap) (l)) := Lib.hid (HR5.out.below hz)
          replace HR11 : Hid (URow v15 (.slice a2 P.length c2) (P)) := Lib.hid (HR11.out.below hz)
          replace HR14 : Hid (URow v15 (.slice a3 (done l ky).length c3) (done l ky)) := Lib.hid (HR14.out.below hz)
          replace HR19 : Hid (URow v15 (.slice a5 0 c5) ([])) := Lib.hid (HR19.out.below hz)
          replace HR20 : Hid (URow v15 (.slice a6 0 c6) ([])) := Lib.hid (HR20.out.below hz)
          replace HR23 : Hid (URow v15 (.slice a7 P.length c7) (P)) := Lib.hid (HR23.out.below hz)
          replace HB : Hid (Below w.heap.size w v15) := Lib.hid (below_trans HB.out hz)
          clear hz HH
          go_wp2_with fail
          go_ret
          exact ⟨rfl, HB.out⟩
      · by_cases t2 : nw > 1099511627776
        · obtain ⟨e7, e8, e9, e10⟩ := WT1.out (.inr (fun h => by have h0 := h.1; have h1 := h.2; omega))
          subst e7 e8 e9 e10
          simp only [List.length_nil] at *
          clear WT1 WT2
          obtain ⟨q19_0, q19_1⟩ := box2 HX19.out
          have s19_ := HX19.out.1
          obtain ⟨q22_0, q22_1⟩ := box2 HX22.out
          have s22_ := HX22.out.1
          go_wp2_with fail
          (with_reducible refine (HLK.out 0 _ _ [] _ HR19.out (URow.nil _)).mono ?_)
          rintro e v12 ⟨rfl, hz⟩
          clear q19_0 q19_1 s19_ q22_0 q22_1 s22_
          replace HX5 : Hid (Box (w.heap.size) [.int .i64 t, .slice a l.length cap] v12) := Lib.hid (HX5.out.below hz)
          replace HX11 : Hid (Box (g2) [.int .i64 T, .slice a2 P.length c2] v12) := Lib.hid (HX11.out.below hz)
          replace HX14 : Hid (Box (g3) [.int .i64 TD, .slice a3 D.length c3] v12) := Lib.hid (HX14.out.below hz)
          replace HX15 : Hid (Box (g3 + 1) [.int .i64 dO.y, .int .i64 dO.k, .int .i64 dO.o, .int .i64 dO.d] v12) := Lib.hid (HX15.out.below hz)
          replace HX17 : Hid (Box (g4) [.int .i64 0, .int .i64 0, .int .i64 0, .int .i64 0] v12) := Lib.hid (HX17.out.below hz)
          replace HX19 : Hid (Box (g5) [.int .i64 0, .slice a5 0 c5] v12) := Lib.hid (HX19.out.below hz)
          replace HX22 : Hid (Box (g6) [.int .i64 0, .slice none 0 0] v12) := Lib.hid (HX22.out.below hz)
          replace HX23 : Hid (Box (g7) [.int .i64 T, .slice a7 P.length c7, .int .i64 T, .int .i64 z] v12) := Lib.hid (HX23.out.below hz)
          replace HX24 : Hid (Box (g11) [.int .i64 0, .int .i64 0, .int .i64 0, .int .i64 0] v12) := Lib.hid (HX24.out.below hz)
          replace HR5 : Hid (URow v12 (.slice a l.length cap) (l)) := Lib.hid (HR5.out.below hz)
          replace HR11 : Hid (URow v12 (.slice a2 P.length c2) (P)) := Lib.hid (HR11.out.below hz)
          replace HR14 : Hid (URow v12 (.slice a3 D.length c3) (D)) := Lib.hid (HR14.out.below hz)
          replace HR19 : Hid (URow v12 (.slice a5 0 c5) ([])) := Lib.hid (HR19.out.below hz)
          replace HR20 : Hid (URow v12 (.slice a6 0 c6) ([])) := Lib.hid (HR20.out.below hz)
          replace HR23 : Hid (URow v12 (.slice a7 P.length c7) (P)) := Lib.hid (HR23.out.below hz)
          replace HB : Hid (Below w.heap.size w v12) := Lib.hid (below_trans HB.out hz)
          clear hz
          obtain ⟨q5_0, q5_1⟩ := box2 HX5.out
          have s5_ := HX5.out.1
          go_wp2_with fail
          (with_reducible refine (HRG.out _ HR5.out).mono ?_)
          rintro e v13 ⟨rfl, hz⟩
          unfold uv
          clear q5_0 q5_1 s5_
          obtain ⟨w13, hw13⟩ : ∃ W, (v13.alloc (.cells #[.int .i64 xg.y, .int .i64 xg.k, .int .i64 xg.o, .int .i64 xg.d] 30)) = W := ⟨_, rfl⟩
          have hal : Below v13.heap.size v13 w13 := hw13 ▸ al v13 _
          have HX25 : Hid (Box v13.heap.size [.int .i64 xg.y, .int .i64 xg.k, .int .i64 xg.o, .int .i64 xg.d] w13) := Lib.hid (hw13 ▸ Box.made v13 [.int .i64 xg.y, .int .i64 xg.k, .int .i64 xg.o, .int .i64 xg.d] 30)
          have hz2 : Below v12.heap.size v12 w13 := below_trans hz hal
          replace HX5 : Hid (Box (w.heap.size) [.int .i64 t, .slice a l.length cap] w13) := Lib.hid (HX5.out.below hz2)
          replace HX11 : Hid (Box (g2) [.int .i64 T, .slice a2 P.length c2] w13) := Lib.hid (HX11.out.below hz2)
          replace HX14 : Hid (Box (g3) [.int .i64 TD, .slice a3 D.length c3] w13) := Lib.hid (HX14.out.below hz2)
          replace HX15 : Hid (Box (g3 + 1) [.int .i64 dO.y, .int .i64 dO.k, .int .i64 dO.o, .int .i64 dO.d] w13) := Lib.hid (HX15.out.below hz2)
          replace HX17 : Hid (Box (g4) [.int .i64 0, .int .i64 0, .int .i64 0, .int .i64 0] w13) := Lib.hid (HX17.out.below hz2)
          replace HX19 : Hid (Box (g5) [.int .i64 0, .slice a5 0 c5] w13) := Lib.hid (HX19.out.below hz2)
          replace HX22 : Hid (Box (g6) [.int .i64 0, .slice none 0 0] w13) := Lib.hid (HX22.out.below hz2)
          replace HX23 : Hid (Box (g7) [.int .i64 T, .slice a7 P.length c7, .int .i64 T, .int .i64 z] w13) := Lib.hid (HX23.out.below hz2)
          replace HX24 : Hid (Box (g11) [.int .i64 0, .int .i64 0, .int .i64 0, .int .i64 0] w13) := Lib.hid (HX24.out.below hz2)
          replace HR5 : Hid (URow w13 (.slice a l.length cap) (l)) := Lib.hid (HR5.out.below hz2)
          replace HR11 : Hid (URow w13 (.slice a2 P.length c2) (P)) := Lib.hid (HR11.out.below hz2)
          replace HR14 : Hid (URow w13 (.slice a3 D.length c3) (D)) := Lib.hid (HR14.out.below hz2)
          replace HR19 : Hid (URow w13 (.slice a5 0 c5) ([])) := Lib.hid (HR19.out.below hz2)
          replace HR20 : Hid (URow w13 (.slice a6 0 c6) ([])) := Lib.hid (HR20.out.below hz2)
          replace HR23 : Hid (URow w13 (.slice a7 P.length c7) (P)) := Lib.hid (HR23.out.below hz2)
          replace HB : Hid (Below w.heap.size w w13) := Lib.hid (below_trans HB.out hz2)
          clear hz hz2 hal
          go_upto_region 21 with (fail)
          try rw [hw13]
          clear hw13
          generalize v13.heap.size = g13 at *
          rcases WD.out with ⟨e1, e2, e3, e4, e5⟩ | ⟨e1, e2, e3, e4, e5⟩
          · subst e1 e2 e3 e4 e5
            simp only [List.length_nil] at *
            replace HX15 : Hid (Box (g3 + 1) [.int .i64 0, .int .i64 0, .int .i64 0, .int .i64 0] _) := HX15
            replace HX25 : Hid (Box (g13) [.int .i64 0, .int .i64 0, .int .i64 0, .int .i64 0] _) := HX25
            obtain ⟨q25_0, q25_1, q25_2, q25_3⟩ := box4 HX25.out
            have s25_ := HX25.out.1
            obtain ⟨q15_0, q15_1, q15_2, q15_3⟩ := box4 HX15.out
            have s15_ := HX15.out.1
            obtain ⟨q14_0, q14_1⟩ := box2 HX14.out
            have s14_ := HX14.out.1
            obtain ⟨q22_0, q22_1⟩ := box2 HX22.out
            have s22_ := HX22.out.1
            go_wp2_with fail
            (with_reducible refine (HLK.out 0 _ _ [] _ HR14.out (URow.nil _)).mono ?_)
            rintro e v14 ⟨rfl, hz⟩
            clear q25_0 q25_1 q25_2 q25_3 s25_ q15_0 q15_1 q15_2 q15_3 s15_ q14_0 q14_1 s14_ q22_0 q22_1 s22_
            replace HX5 : Hid (Box (w.heap.size) [.int .i64 t, .slice a l.length cap] v14) := Lib.hid (HX5.out.below hz)
            replace HX11 : Hid (Box (g2) [.int .i64 T, .slice a2 P.length c2] v14) := Lib.hid (HX11.out.below hz)
            replace HX14 : Hid (Box (g3) [.int .i64 0, .slice a3 0 c3] v14) := Lib.hid (HX14.out.below hz)
            replace HX15 : Hid (Box (g3 + 1) [.int .i64 0, .int .i64 0, .int .i64 0, .int .i64 0] v14) := Lib.hid (HX15.out.below hz)
            replace HX17 : Hid (Box (g4) [.int .i64 0, .int .i64 0, .int .i64 0, .int .i64 0] v14) := Lib.hid (HX17.out.below hz)
            replace HX19 : Hid (Box (g5) [.int .i64 0, .slice a5 0 c5] v14) := Lib.hid (HX19.out.below hz)
            replace HX22 : Hid (Box (g6) [.int .i64 0, .slice none 0 0] v14) := Lib.hid (HX22.out.below hz)
            replace HX23 : Hid (Box (g7) [.int .i64 T, .slice a7 P.length c7, .int .i64 T, .int .i64 z] v14) := Lib.hid (HX23.out.below hz)
            replace HX24 : Hid (Box (g11) [.int .i64 0, .int .i64 0, .int .i64 0, .int .i64 0] v14) := Lib.hid (HX24.out.below hz)
            replace HX25 : Hid (Box (g13) [.int .i64 0, .int .i64 0, .int .i64 0, .int .i64 0] v14) := Lib.hid (HX25.out.below hz)
            replace HR5 : Hid (URow v14 (.slice a l.length cap) (l)) := Lib.hid (HR5.out.below hz)
            replace HR11 : Hid (URow v14 (.slice a2 P.length c2) (P)) := Lib.hid (HR11.out.below hz)
            replace HR14 : Hid (URow v14 (.slice a3 0 c3) ([])) := Lib.hid (HR14.out.below hz)
            replace HR19 : Hid (URow v14 (.slice a5 0 c5) ([])) := Lib.hid (HR19.out.below hz)
            replace HR20 : Hid (URow v14 (.slice a6 0 c6) ([])) := Lib.hid (HR20.out.below hz)
            replace HR23 : Hid (URow v14 (.slice a7 P.length c7) (P)) := Lib.hid (HR23.out.below hz)
            replace HB : Hid (Below w.heap.size w v14) := Lib.hid (below_trans HB.out hz)
            clear hz
            go_wp2_with fail
            go_ret
            exact ⟨rfl, HB.out⟩
          · replace e3 := e3.symm
            replace e4 := e4.symm
            subst e1 e2 e3 e4
            have e6 : (xg.y == 0) = false := by simpa using e5
            obtain ⟨q25_0, q25_1, q25_2, q25_3⟩ := box4 HX25.out
            have s25_ := HX25.out.1
            clear e5
            go_upto_region 23 with (fail)
            clear q25_0 q25_1 q25_2 q25_3 s25_
            refine wp_region_noPanic ?_
            refine wp_region_held_drew (S := fun W' => Below w13.heap.size w13 W') (by kernel_rfl) (dr w13) (fun hHeld => ?_)
            try simp only [Act.put, List.setIfInBounds_toArray, List.set_cons_zero, List.set_cons_succ]
            refine takeH 0 210 (.int .i64 0) calm_np rfl rfl (by kernel_rfl) (by kernel_rfl) (by kernel_rfl) (by rfl) (fun W' hSw => by go_simp) hHeld ?_
            try simp only [Act.put, List.setIfInBounds_toArray, List.set_cons_zero, List.set_cons_succ]
            refine takeH 1 211 (.bool true) calm_np rfl rfl (by kernel_rfl) (by kernel_rfl) (by kernel_rfl) (by rfl) (fun W' hSw => by go_simp) hHeld ?_
            try simp only [Act.put, List.setIfInBounds_toArray, List.set_cons_zero, List.set_cons_succ]
            refine takeH 2 212 (.bool true) calm_np rfl rfl (by kernel_rfl) (by kernel_rfl) (by kernel_rfl) (by rfl) (fun W' hSw => by go_simp) hHeld ?_
            try simp only [Act.put, List.setIfInBounds_toArray, List.set_cons_zero, List.set_cons_succ]
            refine takeH 3 213 (.agg #[.int .i64 xg.y, .int .i64 xg.k, .int .i64 xg.o, .int .i64 xg.d]) calm_np rfl rfl (by kernel_rfl) (by kernel_rfl) (by kernel_rfl) (by rfl) (fun W' hSw => by have g0 := (show _ = some (Value.int .i64 xg.y) from (HX15.out.below hSw).at 0 rfl); have g1 := (show _ = some (Value.int .i64 xg.k) from (HX15.out.below hSw).at 1 rfl); have g2 := (show _ = some (Value.int .i64 xg.o) from (HX15.out.below hSw).at 2 rfl); have g3 := (show _ = some (Value.int .i64 xg.d) from (HX15.out.below hSw).at 3 rfl); have hsz := (HX15.out.below hSw).1; go_simp) hHeld ?_
            try simp only [Act.put, List.setIfInBounds_toArray, List.set_cons_zero, List.set_cons_succ]
            refine takeH 4 214 (.agg #[.int .i64 xg.y, .int .i64 xg.k, .int .i64 xg.o, .int .i64 xg.d]) calm_np rfl rfl (by kernel_rfl) (by kernel_rfl) (by kernel_rfl) (by rfl) (fun W' hSw => by have g0 := (show _ = some (Value.int .i64 xg.y) from (HX25.out.below hSw).at 0 rfl); have g1 := (show _ = some (Value.int .i64 xg.k) from (HX25.out.below hSw).at 1 rfl); have g2 := (show _ = some (Value.int .i64 xg.o) from (HX25.out.below hSw).at 2 rfl); have g3 := (show _ = some (Value.int .i64 xg.d) from (HX25.out.below hSw).at 3 rfl); have hsz := (HX25.out.below hSw).1; go_simp) hHeld ?_
            try simp only [Act.put, List.setIfInBounds_toArray, List.set_cons_zero, List.set_cons_succ]
            refine takeH 5 215 (.bool true) calm_np rfl rfl (by kernel_rfl) (by kernel_rfl) (by kernel_rfl) (by rfl) (fun W' hSw => by go_simp) hHeld ?_
            try simp only [Act.put, List.setIfInBounds_toArray, List.set_cons_zero, List.set_cons_succ]
            refine takeH 6 216 (.bool true) calm_np rfl rfl (by kernel_rfl) (by kernel_rfl) (by kernel_rfl) (by rfl) (fun W' hSw => by go_simp) hHeld ?_
            try simp only [Act.put, List.setIfInBounds_toArray, List.set_cons_zero, List.set_cons_succ]
            refine takeH 7 217 (.bool true) calm_np rfl rfl (by kernel_rfl) (by kernel_rfl) (by kernel_rfl) (by rfl) (fun W' hSw => by go_simp) hHeld ?_
            try simp only [Act.put, List.setIfInBounds_toArray, List.set_cons_zero, List.set_cons_succ]
            refine takeH 8 218 (.agg #[.int .i64 t, .slice a3 (done l ky).length c3]) calm_np rfl rfl (by kernel_rfl) (by kernel_rfl) (by kernel_rfl) (by rfl) (fun W' hSw => by have g0 := (show _ = some (Value.int .i64 t) from (HX14.out.below hSw).at 0 rfl); have g1 := (show _ = some (Value.slice a3 (done l ky).length c3) from (HX14.out.below hSw).at 1 rfl); have hsz := (HX14.out.below hSw).1; go_simp) hHeld ?_
            try simp only [Act.put, List.setIfInBounds_toArray, List.set_cons_zero, List.set_cons_succ]
            refine takeH 9 219 (.agg #[.int .i64 t, .slice a l.length cap]) calm_np rfl rfl (by kernel_rfl) (by kernel_rfl) (by kernel_rfl) (by rfl) (fun W' hSw => by have g0 := (show _ = some (Value.int .i64 t) from (HX5.out.below hSw).at 0 rfl); have g1 := (show _ = some (Value.slice a l.length cap) from (HX5.out.below hSw).at 1 rfl); have hsz := (HX5.out.below hSw).1; go_simp) hHeld ?_
            try simp only [Act.put, List.setIfInBounds_toArray, List.set_cons_zero, List.set_cons_succ]
            refine takeH 10 220 (.int .i64 ky) calm_np rfl rfl (by kernel_rfl) (by kernel_rfl) (by kernel_rfl) (by rfl) (fun W' hSw => by go_simp) hHeld ?_
            try simp only [Act.put, List.setIfInBounds_toArray, List.set_cons_zero, List.set_cons_succ]
            refine wpAnyH_ready (rs := [11]) (by kernel_rfl) (by simp) (AllReadyH.cons rfl (fun K hK => ?_) AllReadyH.nil)
            go_simp
            (with_reducible refine (HRD.out _ (HR5.out.below hHeld)).mono ?_)
            rintro e V1 ⟨ud, rfl, hod, hz⟩
            unfold bv
            obtain ⟨ad, cd, rfl⟩ : ∃ a c, ud = .slice a (done l ky).length c := hod.row.slice
            have hh := below_trans hHeld hz
            clear hz
            go_simp
            refine hK.out _ _ hh (fun hHeld => ?_)
            clear hK hh
            try simp only [Act.put, List.setIfInBounds_toArray, List.set_cons_zero, List.set_cons_succ]
            refine wpAnyH_ready (rs := [12]) (by kernel_rfl) (by simp) (AllReadyH.cons rfl (fun K hK => ?_) AllReadyH.nil)
            go_simp
            (with_reducible refine (HLK.out t _ _ (done l ky) _ (HR14.out.below hHeld) hod.row).mono ?_)
            rintro e V2 ⟨rfl, hz⟩
            have hh := below_trans hHeld hz
            clear hz
            go_simp
            refine hK.out _ _ hh (fun hHeld => ?_)
            clear hK hh
            try simp only [Act.put, List.setIfInBounds_toArray, List.set_cons_zero, List.set_cons_succ]
            refine takeH 13 223 (.bool true) calm_np rfl rfl (by kernel_rfl) (by kernel_rfl) (by kernel_rfl) (by rfl) (fun W' hSw => by go_simp) hHeld ?_
            try simp only [Act.put, List.setIfInBounds_toArray, List.set_cons_zero, List.set_cons_succ]
            refine takeH 14 10 (.bool true) calm_np rfl rfl (by kernel_rfl) (by kernel_rfl) (by kernel_rfl) (by rfl) (fun W' hSw => by go_simp) hHeld ?_
            try simp only [Act.put, List.setIfInBounds_toArray, List.set_cons_zero, List.set_cons_succ]
            refine wpAnyH_done (by kernel_rfl) ?_ _
            refine NoPanic.normal ?_
            have HH := Lib.hid hHeld
            clear hHeld
            rename World => v15
            have hz := HH.out
            replace HX5 : Hid (Box (w.heap.size) [.int .i64 t, .slice a l.length cap] v15) := Lib.hid (HX5.out.below hz)
            replace HX11 : Hid (Box (g2) [.int .i64 T, .slice a2 P.length c2] v15) := Lib.hid (HX11.out.below hz)
            replace HX14 : Hid (Box (g3) [.int .i64 t, .slice a3 (done l ky).length c3] v15) := Lib.hid (HX14.out.below hz)
            replace HX15 : Hid (Box (g3 + 1) [.int .i64 xg.y, .int .i64 xg.k, .int .i64 xg.o, .int .i64 xg.d] v15) := Lib.hid (HX15.out.below hz)
            replace HX17 : Hid (Box (g4) [.int .i64 0, .int .i64 0, .int .i64 0, .int .i64 0] v15) := Lib.hid (HX17.out.below hz)
            replace HX19 : Hid (Box (g5) [.int .i64 0, .slice a5 0 c5] v15) := Lib.hid (HX19.out.below hz)
            replace HX22 : Hid (Box (g6) [.int .i64 0, .slice none 0 0] v15) := Lib.hid (HX22.out.below hz)
            replace HX23 : Hid (Box (g7) [.int .i64 T, .slice a7 P.length c7, .int .i64 T, .int .i64 z] v15) := Lib.hid (HX23.out.below hz)
            replace HX24 : Hid (Box (g11) [.int .i64 0, .int .i64 0, .int .i64 0, .int .i64 0] v15) := Lib.hid (HX24.out.below hz)
            replace HX25 : Hid (Box (g13) [.int .i64 xg.y, .int .i64 xg.k, .int .i64 xg.o, .int .i64 xg.d] v15) := Lib.hid (HX25.out.below hz)
            replace HR5 : Hid (URow v15 (.slice a l.length cap) (l)) := Lib.hid (HR5.out.below hz)
            replace HR11 : Hid (URow v15 (.slice a2 P.length c2) (P)) := Lib.hid (HR11.out.below hz)
            replace HR14 : Hid (URow v15 (.slice a3 (done l ky).length c3) (done l ky)) := Lib.hid (HR14.out.below hz)
            replace HR19 : Hid (URow v15 (.slice a5 0 c5) ([])) := Lib.hid (HR19.out.below hz)
            replace HR20 : Hid (URow v15 (.slice a6 0 c6) ([])) := Lib.hid (HR20.out.below hz)
            replace HR23 : Hid (URow v15 (.slice a7 P.length c7) (P)) := Lib.hid (HR23.out.below hz)
            replace HB : Hid (Below w.heap.size w v15) := Lib.hid (below_trans HB.out hz)
            clear hz HH
            go_wp2_with fail
            go_ret
            exact ⟨rfl, HB.out⟩
        · obtain ⟨e7, e8, e9, e10⟩ := WT2.out ⟨by first | trivial | rfl, ⟨by omega, by omega⟩⟩
          replace e9 := e9.symm
          subst e7 e8 e9 e10
          clear WT1 WT2
          have HRT2 := Lib.hid (HRT.out (by omega) (by omega))
          go_upto_region 18 with (fail)
          refine wp_region_noPanic ?_
          refine wp_region_held_drew (S := fun W' => Below w11.heap.size w11 W') (by kernel_rfl) (dr w11) (fun hHeld => ?_)
          try simp only [Act.put, List.setIfInBounds_toArray, List.set_cons_zero, List.set_cons_succ]
          refine takeH 0 174 (.int .i64 0) calm_np rfl rfl (by kernel_rfl) (by kernel_rfl) (by kernel_rfl) (by rfl) (fun W' hSw => by go_simp) hHeld ?_
          try simp only [Act.put, List.setIfInBounds_toArray, List.set_cons_zero, List.set_cons_succ]
          refine takeH 1 175 (.bool false) calm_np rfl rfl (by kernel_rfl) (by kernel_rfl) (by kernel_rfl) (by rfl) (fun W' hSw => by go_simp) hHeld ?_
          try simp only [Act.put, List.setIfInBounds_toArray, List.set_cons_zero, List.set_cons_succ]
          refine takeH 2 176 (.bool false) calm_np rfl rfl (by kernel_rfl) (by kernel_rfl) (by kernel_rfl) (by rfl) (fun W' hSw => by go_simp) hHeld ?_
          try simp only [Act.put, List.setIfInBounds_toArray, List.set_cons_zero, List.set_cons_succ]
          refine takeH 3 177 (.agg #[.int .i64 t, .slice a5 (tell l nw).length c5]) calm_np rfl rfl (by kernel_rfl) (by kernel_rfl) (by kernel_rfl) (by rfl) (fun W' hSw => by have g0 := (show _ = some (Value.int .i64 t) from (HX19.out.below hSw).at 0 rfl); have g1 := (show _ = some (Value.slice a5 (tell l nw).length c5) from (HX19.out.below hSw).at 1 rfl); have hsz := (HX19.out.below hSw).1; go_simp) hHeld ?_
          try simp only [Act.put, List.setIfInBounds_toArray, List.set_cons_zero, List.set_cons_succ]
          refine takeH 4 178 (.agg #[.int .i64 t, .slice a l.length cap]) calm_np rfl rfl (by kernel_rfl) (by kernel_rfl) (by kernel_rfl) (by rfl) (fun W' hSw => by have g0 := (show _ = some (Value.int .i64 t) from (HX5.out.below hSw).at 0 rfl); have g1 := (show _ = some (Value.slice a l.length cap) from (HX5.out.below hSw).at 1 rfl); have hsz := (HX5.out.below hSw).1; go_simp) hHeld ?_
          try simp only [Act.put, List.setIfInBounds_toArray, List.set_cons_zero, List.set_cons_succ]
          refine takeH 5 179 (.int .i64 nw) calm_np rfl rfl (by kernel_rfl) (by kernel_rfl) (by kernel_rfl) (by rfl) (fun W' hSw => by go_simp) hHeld ?_
          try simp only [Act.put, List.setIfInBounds_toArray, List.set_cons_zero, List.set_cons_succ]
          refine wpAnyH_ready (rs := [6]) (by kernel_rfl) (by simp) (AllReadyH.cons rfl (fun K hK => ?_) AllReadyH.nil)
          go_simp
          (with_reducible refine (HRT2.out _ (HR5.out.below hHeld)).mono ?_)
          rintro e V1 ⟨ud, rfl, hod, hz⟩
          unfold bv
          obtain ⟨ad, cd, rfl⟩ : ∃ a c, ud = .slice a (tell l nw).length c := hod.row.slice
          have hh := below_trans hHeld hz
          clear hz
          go_simp
          refine hK.out _ _ hh (fun hHeld => ?_)
          clear hK hh
          try simp only [Act.put, List.setIfInBounds_toArray, List.set_cons_zero, List.set_cons_succ]
          refine wpAnyH_ready (rs := [7]) (by kernel_rfl) (by simp) (AllReadyH.cons rfl (fun K hK => ?_) AllReadyH.nil)
          go_simp
          (with_reducible refine (HLK.out t _ _ (tell l nw) _ (HR19.out.below hHeld) hod.row).mono ?_)
          rintro e V2 ⟨rfl, hz⟩
          have hh := below_trans hHeld hz
          clear hz
          go_simp
          refine hK.out _ _ hh (fun hHeld => ?_)
          clear hK hh
          try simp only [Act.put, List.setIfInBounds_toArray, List.set_cons_zero, List.set_cons_succ]
          refine takeH 8 182 (.bool false) calm_np rfl rfl (by kernel_rfl) (by kernel_rfl) (by kernel_rfl) (by rfl) (fun W' hSw => by go_simp) hHeld ?_
          try simp only [Act.put, List.setIfInBounds_toArray, List.set_cons_zero, List.set_cons_succ]
          refine takeH 9 183 (.bool false) calm_np rfl rfl (by kernel_rfl) (by kernel_rfl) (by kernel_rfl) (by rfl) (fun W' hSw => by go_simp) hHeld ?_
          try simp only [Act.put, List.setIfInBounds_toArray, List.set_cons_zero, List.set_cons_succ]
          refine takeH 10 184 (.bool false) calm_np rfl rfl (by kernel_rfl) (by kernel_rfl) (by kernel_rfl) (by rfl) (fun W' hSw => by go_simp) hHeld ?_
          try simp only [Act.put, List.setIfInBounds_toArray, List.set_cons_zero, List.set_cons_succ]
          refine takeH 11 185 (.slice a6 (told l nw).length c6) calm_np rfl rfl (by kernel_rfl) (by kernel_rfl) (by kernel_rfl) (by rfl) (fun W' hSw => by go_simp) hHeld ?_
          try simp only [Act.put, List.setIfInBounds_toArray, List.set_cons_zero, List.set_cons_succ]
          refine takeH 12 186 (.agg #[.int .i64 t, .slice a l.length cap]) calm_np rfl rfl (by kernel_rfl) (by kernel_rfl) (by kernel_rfl) (by rfl) (fun W' hSw => by have g0 := (show _ = some (Value.int .i64 t) from (HX5.out.below hSw).at 0 rfl); have g1 := (show _ = some (Value.slice a l.length cap) from (HX5.out.below hSw).at 1 rfl); have hsz := (HX5.out.below hSw).1; go_simp) hHeld ?_
          try simp only [Act.put, List.setIfInBounds_toArray, List.set_cons_zero, List.set_cons_succ]
          refine takeH 13 187 (.int .i64 nw) calm_np rfl rfl (by kernel_rfl) (by kernel_rfl) (by kernel_rfl) (by rfl) (fun W' hSw => by go_simp) hHeld ?_
          try simp only [Act.put, List.setIfInBounds_toArray, List.set_cons_zero, List.set_cons_succ]
          refine wpAnyH_ready (rs := [14]) (by kernel_rfl) (by simp) (AllReadyH.cons rfl (fun K hK => ?_) AllReadyH.nil)
          go_simp
          (with_reducible refine (HRO.out _ (HR5.out.below hHeld)).mono ?_)
          rintro e V3 ⟨ue, rfl, hoe, hz⟩
          obtain ⟨ae, ce, rfl⟩ : ∃ a c, ue = .slice a (told l nw).length c := hoe.row.slice
          have hh := below_trans hHeld hz
          clear hz
          go_simp
          refine hK.out _ _ hh (fun hHeld => ?_)
          clear hK hh
          try simp only [Act.put, List.setIfInBounds_toArray, List.set_cons_zero, List.set_cons_succ]
          refine wpAnyH_ready (rs := [15]) (by kernel_rfl) (by simp) (AllReadyH.cons rfl (fun K hK => ?_) AllReadyH.nil)
          go_simp
          (with_reducible refine (HSM.out _ _ (told l nw) _ (HR20.out.below hHeld) hoe.row).mono ?_)
          rintro e V4 ⟨rfl, hz⟩
          have hh := below_trans hHeld hz
          clear hz
          go_simp
          refine hK.out _ _ hh (fun hHeld => ?_)
          clear hK hh
          try simp only [Act.put, List.setIfInBounds_toArray, List.set_cons_zero, List.set_cons_succ]
          refine takeH 16 190 (.bool false) calm_np rfl rfl (by kernel_rfl) (by kernel_rfl) (by kernel_rfl) (by rfl) (fun W' hSw => by go_simp) hHeld ?_
          try simp only [Act.put, List.setIfInBounds_toArray, List.set_cons_zero, List.set_cons_succ]
          refine takeH 17 191 (.bool false) calm_np rfl rfl (by kernel_rfl) (by kernel_rfl) (by kernel_rfl) (by rfl) (fun W' hSw => by go_simp) hHeld ?_
          try simp only [Act.put, List.setIfInBounds_toArray, List.set_cons_zero, List.set_cons_succ]
          refine wpAnyH_done (by kernel_rfl) ?_ _
          refine NoPanic.normal ?_
          have HH := Lib.hid hHeld
          clear hHeld
          rename World => v13
          have hz := HH.out
          replace HX5 : Hid (Box (w.heap.size) [.int .i64 t, .slice a l.length cap] v13) := Lib.hid (HX5.out.below hz)
          replace HX11 : Hid (Box (g2) [.int .i64 T, .slice a2 P.length c2] v13) := Lib.hid (HX11.out.below hz)
          replace HX14 : Hid (Box (g3) [.int .i64 TD, .slice a3 D.length c3] v13) := Lib.hid (HX14.out.below hz)
          replace HX15 : Hid (Box (g3 + 1) [.int .i64 dO.y, .int .i64 dO.k, .int .i64 dO.o, .int .i64 dO.d] v13) := Lib.hid (HX15.out.below hz)
          replace HX17 : Hid (Box (g4) [.int .i64 0, .int .i64 0, .int .i64 0, .int .i64 0] v13) := Lib.hid (HX17.out.below hz)
          replace HX19 : Hid (Box (g5) [.int .i64 t, .slice a5 (tell l nw).length c5] v13) := Lib.hid (HX19.out.below hz)
          replace HX22 : Hid (Box (g6) [.int .i64 0, .slice none 0 0] v13) := Lib.hid (HX22.out.below hz)
          replace HX23 : Hid (Box (g7) [.int .i64 T, .slice a7 P.length c7, .int .i64 T, .int .i64 z] v13) := Lib.hid (HX23.out.below hz)
          replace HX24 : Hid (Box (g11) [.int .i64 0, .int .i64 0, .int .i64 0, .int .i64 0] v13) := Lib.hid (HX24.out.below hz)
          replace HR5 : Hid (URow v13 (.slice a l.length cap) (l)) := Lib.hid (HR5.out.below hz)
          replace HR11 : Hid (URow v13 (.slice a2 P.length c2) (P)) := Lib.hid (HR11.out.below hz)
          replace HR14 : Hid (URow v13 (.slice a3 D.length c3) (D)) := Lib.hid (HR14.out.below hz)
          replace HR19 : Hid (URow v13 (.slice a5 (tell l nw).length c5) (tell l nw)) := Lib.hid (HR19.out.below hz)
          replace HR20 : Hid (URow v13 (.slice a6 (told l nw).length c6) (told l nw)) := Lib.hid (HR20.out.below hz)
          replace HR23 : Hid (URow v13 (.slice a7 P.length c7) (P)) := Lib.hid (HR23.out.below hz)
          replace HB : Hid (Below w.heap.size w v13) := Lib.hid (below_trans HB.out hz)
          clear hz HH
          obtain ⟨q5_0, q5_1⟩ := box2 HX5.out
          have s5_ := HX5.out.1
          go_wp2_with fail
          (with_reducible refine (HRG.out _ HR5.out).mono ?_)
          rintro e v14 ⟨rfl, hz⟩
          unfold uv
          clear q5_0 q5_1 s5_
          obtain ⟨w14, hw14⟩ : ∃ W, (v14.alloc (.cells #[.int .i64 xg.y, .int .i64 xg.k, .int .i64 xg.o, .int .i64 xg.d] 30)) = W := ⟨_, rfl⟩
          have hal : Below v14.heap.size v14 w14 := hw14 ▸ al v14 _
          have HX25 : Hid (Box v14.heap.size [.int .i64 xg.y, .int .i64 xg.k, .int .i64 xg.o, .int .i64 xg.d] w14) := Lib.hid (hw14 ▸ Box.made v14 [.int .i64 xg.y, .int .i64 xg.k, .int .i64 xg.o, .int .i64 xg.d] 30)
          have hz2 : Below v13.heap.size v13 w14 := below_trans hz hal
          replace HX5 : Hid (Box (w.heap.size) [.int .i64 t, .slice a l.length cap] w14) := Lib.hid (HX5.out.below hz2)
          replace HX11 : Hid (Box (g2) [.int .i64 T, .slice a2 P.length c2] w14) := Lib.hid (HX11.out.below hz2)
          replace HX14 : Hid (Box (g3) [.int .i64 TD, .slice a3 D.length c3] w14) := Lib.hid (HX14.out.below hz2)
          replace HX15 : Hid (Box (g3 + 1) [.int .i64 dO.y, .int .i64 dO.k, .int .i64 dO.o, .int .i64 dO.d] w14) := Lib.hid (HX15.out.below hz2)
          replace HX17 : Hid (Box (g4) [.int .i64 0, .int .i64 0, .int .i64 0, .int .i64 0] w14) := Lib.hid (HX17.out.below hz2)
          replace HX19 : Hid (Box (g5) [.int .i64 t, .slice a5 (tell l nw).length c5] w14) := Lib.hid (HX19.out.below hz2)
          replace HX22 : Hid (Box (g6) [.int .i64 0, .slice none 0 0] w14) := Lib.hid (HX22.out.below hz2)
          replace HX23 : Hid (Box (g7) [.int .i64 T, .slice a7 P.length c7, .int .i64 T, .int .i64 z] w14) := Lib.hid (HX23.out.below hz2)
          replace HX24 : Hid (Box (g11) [.int .i64 0, .int .i64 0, .int .i64 0, .int .i64 0] w14) := Lib.hid (HX24.out.below hz2)
          replace HR5 : Hid (URow w14 (.slice a l.length cap) (l)) := Lib.hid (HR5.out.below hz2)
          replace HR11 : Hid (URow w14 (.slice a2 P.length c2) (P)) := Lib.hid (HR11.out.below hz2)
          replace HR14 : Hid (URow w14 (.slice a3 D.length c3) (D)) := Lib.hid (HR14.out.below hz2)
          replace HR19 : Hid (URow w14 (.slice a5 (tell l nw).length c5) (tell l nw)) := Lib.hid (HR19.out.below hz2)
          replace HR20 : Hid (URow w14 (.slice a6 (told l nw).length c6) (told l nw)) := Lib.hid (HR20.out.below hz2)
          replace HR23 : Hid (URow w14 (.slice a7 P.length c7) (P)) := Lib.hid (HR23.out.below hz2)
          replace HB : Hid (Below w.heap.size w w14) := Lib.hid (below_trans HB.out hz2)
          clear hz hz2 hal
          go_upto_region 21 with (fail)
          try rw [hw14]
          clear hw14
          generalize v14.heap.size = g14 at *
          rcases WD.out with ⟨e1, e2, e3, e4, e5⟩ | ⟨e1, e2, e3, e4, e5⟩
          · subst e1 e2 e3 e4 e5
            simp only [List.length_nil] at *
            replace HX15 : Hid (Box (g3 + 1) [.int .i64 0, .int .i64 0, .int .i64 0, .int .i64 0] _) := HX15
            replace HX25 : Hid (Box (g14) [.int .i64 0, .int .i64 0, .int .i64 0, .int .i64 0] _) := HX25
            obtain ⟨q25_0, q25_1, q25_2, q25_3⟩ := box4 HX25.out
            have s25_ := HX25.out.1
            obtain ⟨q15_0, q15_1, q15_2, q15_3⟩ := box4 HX15.out
            have s15_ := HX15.out.1
            obtain ⟨q14_0, q14_1⟩ := box2 HX14.out
            have s14_ := HX14.out.1
            obtain ⟨q22_0, q22_1⟩ := box2 HX22.out
            have s22_ := HX22.out.1
            go_wp2_with fail
            (with_reducible refine (HLK.out 0 _ _ [] _ HR14.out (URow.nil _)).mono ?_)
            rintro e v15 ⟨rfl, hz⟩
            clear q25_0 q25_1 q25_2 q25_3 s25_ q15_0 q15_1 q15_2 q15_3 s15_ q14_0 q14_1 s14_ q22_0 q22_1 s22_
            replace HX5 : Hid (Box (w.heap.size) [.int .i64 t, .slice a l.length cap] v15) := Lib.hid (HX5.out.below hz)
            replace HX11 : Hid (Box (g2) [.int .i64 T, .slice a2 P.length c2] v15) := Lib.hid (HX11.out.below hz)
            replace HX14 : Hid (Box (g3) [.int .i64 0, .slice a3 0 c3] v15) := Lib.hid (HX14.out.below hz)
            replace HX15 : Hid (Box (g3 + 1) [.int .i64 0, .int .i64 0, .int .i64 0, .int .i64 0] v15) := Lib.hid (HX15.out.below hz)
            replace HX17 : Hid (Box (g4) [.int .i64 0, .int .i64 0, .int .i64 0, .int .i64 0] v15) := Lib.hid (HX17.out.below hz)
            replace HX19 : Hid (Box (g5) [.int .i64 t, .slice a5 (tell l nw).length c5] v15) := Lib.hid (HX19.out.below hz)
            replace HX22 : Hid (Box (g6) [.int .i64 0, .slice none 0 0] v15) := Lib.hid (HX22.out.below hz)
            replace HX23 : Hid (Box (g7) [.int .i64 T, .slice a7 P.length c7, .int .i64 T, .int .i64 z] v15) := Lib.hid (HX23.out.below hz)
            replace HX24 : Hid (Box (g11) [.int .i64 0, .int .i64 0, .int .i64 0, .int .i64 0] v15) := Lib.hid (HX24.out.below hz)
            replace HX25 : Hid (Box (g14) [.int .i64 0, .int .i64 0, .int .i64 0, .int .i64 0] v15) := Lib.hid (HX25.out.below hz)
            replace HR5 : Hid (URow v15 (.slice a l.length cap) (l)) := Lib.hid (HR5.out.below hz)
            replace HR11 : Hid (URow v15 (.slice a2 P.length c2) (P)) := Lib.hid (HR11.out.below hz)
            replace HR14 : Hid (URow v15 (.slice a3 0 c3) ([])) := Lib.hid (HR14.out.below hz)
            replace HR19 : Hid (URow v15 (.slice a5 (tell l nw).length c5) (tell l nw)) := Lib.hid (HR19.out.below hz)
            replace HR20 : Hid (URow v15 (.slice a6 (told l nw).length c6) (told l nw)) := Lib.hid (HR20.out.below hz)
            replace HR23 : Hid (URow v15 (.slice a7 P.length c7) (P)) := Lib.hid (HR23.out.below hz)
            replace HB : Hid (Below w.heap.size w v15) := Lib.hid (below_trans HB.out hz)
            clear hz
            go_wp2_with fail
            go_ret
            exact ⟨rfl, HB.out⟩
          · replace e3 := e3.symm
            replace e4 := e4.symm
            subst e1 e2 e3 e4
            have e6 : (xg.y == 0) = false := by simpa using e5
            obtain ⟨q25_0, q25_1, q25_2, q25_3⟩ := box4 HX25.out
            have s25_ := HX25.out.1
            clear e5
            go_upto_region 23 with (fail)
            clear q25_0 q25_1 q25_2 q25_3 s25_
            refine wp_region_noPanic ?_
            refine wp_region_held_drew (S := fun W' => Below w14.heap.size w14 W') (by kernel_rfl) (dr w14) (fun hHeld => ?_)
            try simp only [Act.put, List.setIfInBounds_toArray, List.set_cons_zero, List.set_cons_succ]
            refine takeH 0 210 (.int .i64 0) calm_np rfl rfl (by kernel_rfl) (by kernel_rfl) (by kernel_rfl) (by rfl) (fun W' hSw => by go_simp) hHeld ?_
            try simp only [Act.put, List.setIfInBounds_toArray, List.set_cons_zero, List.set_cons_succ]
            refine takeH 1 211 (.bool true) calm_np rfl rfl (by kernel_rfl) (by kernel_rfl) (by kernel_rfl) (by rfl) (fun W' hSw => by go_simp) hHeld ?_
            try simp only [Act.put, List.setIfInBounds_toArray, List.set_cons_zero, List.set_cons_succ]
            refine takeH 2 212 (.bool true) calm_np rfl rfl (by kernel_rfl) (by kernel_rfl) (by kernel_rfl) (by rfl) (fun W' hSw => by go_simp) hHeld ?_
            try simp only [Act.put, List.setIfInBounds_toArray, List.set_cons_zero, List.set_cons_succ]
            refine takeH 3 213 (.agg #[.int .i64 xg.y, .int .i64 xg.k, .int .i64 xg.o, .int .i64 xg.d]) calm_np rfl rfl (by kernel_rfl) (by kernel_rfl) (by kernel_rfl) (by rfl) (fun W' hSw => by have g0 := (show _ = some (Value.int .i64 xg.y) from (HX15.out.below hSw).at 0 rfl); have g1 := (show _ = some (Value.int .i64 xg.k) from (HX15.out.below hSw).at 1 rfl); have g2 := (show _ = some (Value.int .i64 xg.o) from (HX15.out.below hSw).at 2 rfl); have g3 := (show _ = some (Value.int .i64 xg.d) from (HX15.out.below hSw).at 3 rfl); have hsz := (HX15.out.below hSw).1; go_simp) hHeld ?_
            try simp only [Act.put, List.setIfInBounds_toArray, List.set_cons_zero, List.set_cons_succ]
            refine takeH 4 214 (.agg #[.int .i64 xg.y, .int .i64 xg.k, .int .i64 xg.o, .int .i64 xg.d]) calm_np rfl rfl (by kernel_rfl) (by kernel_rfl) (by kernel_rfl) (by rfl) (fun W' hSw => by have g0 := (show _ = some (Value.int .i64 xg.y) from (HX25.out.below hSw).at 0 rfl); have g1 := (show _ = some (Value.int .i64 xg.k) from (HX25.out.below hSw).at 1 rfl); have g2 := (show _ = some (Value.int .i64 xg.o) from (HX25.out.below hSw).at 2 rfl); have g3 := (show _ = some (Value.int .i64 xg.d) from (HX25.out.below hSw).at 3 rfl); have hsz := (HX25.out.below hSw).1; go_simp) hHeld ?_
            try simp only [Act.put, List.setIfInBounds_toArray, List.set_cons_zero, List.set_cons_succ]
            refine takeH 5 215 (.bool true) calm_np rfl rfl (by kernel_rfl) (by kernel_rfl) (by kernel_rfl) (by rfl) (fun W' hSw => by go_simp) hHeld ?_
            try simp only [Act.put, List.setIfInBounds_toArray, List.set_cons_zero, List.set_cons_succ]
            refine takeH 6 216 (.bool true) calm_np rfl rfl (by kernel_rfl) (by kernel_rfl) (by kernel_rfl) (by rfl) (fun W' hSw => by go_simp) hHeld ?_
            try simp only [Act.put, List.setIfInBounds_toArray, List.set_cons_zero, List.set_cons_succ]
            refine takeH 7 217 (.bool true) calm_np rfl rfl (by kernel_rfl) (by kernel_rfl) (by kernel_rfl) (by rfl) (fun W' hSw => by go_simp) hHeld ?_
            try simp only [Act.put, List.setIfInBounds_toArray, List.set_cons_zero, List.set_cons_succ]
            refine takeH 8 218 (.agg #[.int .i64 t, .slice a3 (done l ky).length c3]) calm_np rfl rfl (by kernel_rfl) (by kernel_rfl) (by kernel_rfl) (by rfl) (fun W' hSw => by have g0 := (show _ = some (Value.int .i64 t) from (HX14.out.below hSw).at 0 rfl); have g1 := (show _ = some (Value.slice a3 (done l ky).length c3) from (HX14.out.below hSw).at 1 rfl); have hsz := (HX14.out.below hSw).1; go_simp) hHeld ?_
            try simp only [Act.put, List.setIfInBounds_toArray, List.set_cons_zero, List.set_cons_succ]
            refine takeH 9 219 (.agg #[.int .i64 t, .slice a l.length cap]) calm_np rfl rfl (by kernel_rfl) (by kernel_rfl) (by kernel_rfl) (by rfl) (fun W' hSw => by have g0 := (show _ = some (Value.int .i64 t) from (HX5.out.below hSw).at 0 rfl); have g1 := (show _ = some (Value.slice a l.length cap) from (HX5.out.below hSw).at 1 rfl); have hsz := (HX5.out.below hSw).1; go_simp) hHeld ?_
            try simp only [Act.put, List.setIfInBounds_toArray, List.set_cons_zero, List.set_cons_succ]
            refine takeH 10 220 (.int .i64 ky) calm_np rfl rfl (by kernel_rfl) (by kernel_rfl) (by kernel_rfl) (by rfl) (fun W' hSw => by go_simp) hHeld ?_
            try simp only [Act.put, List.setIfInBounds_toArray, List.set_cons_zero, List.set_cons_succ]
            refine wpAnyH_ready (rs := [11]) (by kernel_rfl) (by simp) (AllReadyH.cons rfl (fun K hK => ?_) AllReadyH.nil)
            go_simp
            (with_reducible refine (HRD.out _ (HR5.out.below hHeld)).mono ?_)
            rintro e V1 ⟨ud, rfl, hod, hz⟩
            unfold bv
            obtain ⟨ad, cd, rfl⟩ : ∃ a c, ud = .slice a (done l ky).length c := hod.row.slice
            have hh := below_trans hHeld hz
            clear hz
            go_simp
            refine hK.out _ _ hh (fun hHeld => ?_)
            clear hK hh
            try simp only [Act.put, List.setIfInBounds_toArray, List.set_cons_zero, List.set_cons_succ]
            refine wpAnyH_ready (rs := [12]) (by kernel_rfl) (by simp) (AllReadyH.cons rfl (fun K hK => ?_) AllReadyH.nil)
            go_simp
            (with_reducible refine (HLK.out t _ _ (done l ky) _ (HR14.out.below hHeld) hod.row).mono ?_)
            rintro e V2 ⟨rfl, hz⟩
            have hh := below_trans hHeld hz
            clear hz
            go_simp
            refine hK.out _ _ hh (fun hHeld => ?_)
            clear hK hh
            try simp only [Act.put, List.setIfInBounds_toArray, List.set_cons_zero, List.set_cons_succ]
            refine takeH 13 223 (.bool true) calm_np rfl rfl (by kernel_rfl) (by kernel_rfl) (by kernel_rfl) (by rfl) (fun W' hSw => by go_simp) hHeld ?_
            try simp only [Act.put, List.setIfInBounds_toArray, List.set_cons_zero, List.set_cons_succ]
            refine takeH 14 10 (.bool true) calm_np rfl rfl (by kernel_rfl) (by kernel_rfl) (by kernel_rfl) (by rfl) (fun W' hSw => by go_simp) hHeld ?_
            try simp only [Act.put, List.setIfInBounds_toArray, List.set_cons_zero, List.set_cons_succ]
            refine wpAnyH_done (by kernel_rfl) ?_ _
            refine NoPanic.normal ?_
            have HH := Lib.hid hHeld
            clear hHeld
            rename World => v16
            have hz := HH.out
            replace HX5 : Hid (Box (w.heap.size) [.int .i64 t, .slice a l.length cap] v16) := Lib.hid (HX5.out.below hz)
            replace HX11 : Hid (Box (g2) [.int .i64 T, .slice a2 P.length c2] v16) := Lib.hid (HX11.out.below hz)
            replace HX14 : Hid (Box (g3) [.int .i64 t, .slice a3 (done l ky).length c3] v16) := Lib.hid (HX14.out.below hz)
            replace HX15 : Hid (Box (g3 + 1) [.int .i64 xg.y, .int .i64 xg.k, .int .i64 xg.o, .int .i64 xg.d] v16) := Lib.hid (HX15.out.below hz)
            replace HX17 : Hid (Box (g4) [.int .i64 0, .int .i64 0, .int .i64 0, .int .i64 0] v16) := Lib.hid (HX17.out.below hz)
            replace HX19 : Hid (Box (g5) [.int .i64 t, .slice a5 (tell l nw).length c5] v16) := Lib.hid (HX19.out.below hz)
            replace HX22 : Hid (Box (g6) [.int .i64 0, .slice none 0 0] v16) := Lib.hid (HX22.out.below hz)
            replace HX23 : Hid (Box (g7) [.int .i64 T, .slice a7 P.length c7, .int .i64 T, .int .i64 z] v16) := Lib.hid (HX23.out.below hz)
            replace HX24 : Hid (Box (g11) [.int .i64 0, .int .i64 0, .int .i64 0, .int .i64 0] v16) := Lib.hid (HX24.out.below hz)
            replace HX25 : Hid (Box (g14) [.int .i64 xg.y, .int .i64 xg.k, .int .i64 xg.o, .int .i64 xg.d] v16) := Lib.hid (HX25.out.below hz)
            replace HR5 : Hid (URow v16 (.slice a l.length cap) (l)) := Lib.hid (HR5.out.below hz)
            replace HR11 : Hid (URow v16 (.slice a2 P.length c2) (P)) := Lib.hid (HR11.out.below hz)
            replace HR14 : Hid (URow v16 (.slice a3 (done l ky).length c3) (done l ky)) := Lib.hid (HR14.out.below hz)
            replace HR19 : Hid (URow v16 (.slice a5 (tell l nw).length c5) (tell l nw)) := Lib.hid (HR19.out.below hz)
            replace HR20 : Hid (URow v16 (.slice a6 (told l nw).length c6) (told l nw)) := Lib.hid (HR20.out.below hz)
            replace HR23 : Hid (URow v16 (.slice a7 P.length c7) (P)) := Lib.hid (HR23.out.below hz)
            replace HB : Hid (Below w.heap.size w v16) := Lib.hid (below_trans HB.out hz)
            clear hz HH
            go_wp2_with fail
            go_ret
            exact ⟨rfl, HB.out⟩
    · replace e2 := e2.symm
      subst e1 e2
      have e4 : ¬ xf.y = 0 := by omega
      have e5 : (xf.y == 0) = false := by simpa using e4
      obtain ⟨q17_0, q17_1, q17_2, q17_3⟩ := box4 HX17.out
      have s17_ := HX17.out.1
      obtain ⟨q24_0, q24_1, q24_2, q24_3⟩ := box4 HX24.out
      have s24_ := HX24.out.1
      clear WF
      go_upto_region 15 with (fail)
      clear q17_0 q17_1 q17_2 q17_3 s17_ q24_0 q24_1 q24_2 q24_3 s24_
      clear e3 e4 e5
      by_cases t1 : nw < 0
      · obtain ⟨e7, e8, e9, e10⟩ := WT1.out (.inr (fun h => by have h0 := h.1; have h1 := h.2; omega))
        subst e7 e8 e9 e10
        simp only [List.length_nil] at *
        clear WT1 WT2
        obtain ⟨q19_0, q19_1⟩ := box2 HX19.out
        have s19_ := HX19.out.1
        obtain ⟨q22_0, q22_1⟩ := box2 HX22.out
        have s22_ := HX22.out.1
        go_wp2_with fail
        (with_reducible refine (HLK.out 0 _ _ [] _ HR19.out (URow.nil _)).mono ?_)
        rintro e v12 ⟨rfl, hz⟩
        clear q19_0 q19_1 s19_ q22_0 q22_1 s22_
        replace HX5 : Hid (Box (w.heap.size) [.int .i64 t, .slice a l.length cap] v12) := Lib.hid (HX5.out.below hz)
        replace HX11 : Hid (Box (g2) [.int .i64 T, .slice a2 P.length c2] v12) := Lib.hid (HX11.out.below hz)
        replace HX14 : Hid (Box (g3) [.int .i64 TD, .slice a3 D.length c3] v12) := Lib.hid (HX14.out.below hz)
        replace HX15 : Hid (Box (g3 + 1) [.int .i64 dO.y, .int .i64 dO.k, .int .i64 dO.o, .int .i64 dO.d] v12) := Lib.hid (HX15.out.below hz)
        replace HX17 : Hid (Box (g4) [.int .i64 xf.y, .int .i64 xf.k, .int .i64 xf.o, .int .i64 xf.d] v12) := Lib.hid (HX17.out.below hz)
        replace HX19 : Hid (Box (g5) [.int .i64 0, .slice a5 0 c5] v12) := Lib.hid (HX19.out.below hz)
        replace HX22 : Hid (Box (g6) [.int .i64 0, .slice none 0 0] v12) := Lib.hid (HX22.out.below hz)
        replace HX23 : Hid (Box (g7) [.int .i64 T, .slice a7 P.length c7, .int .i64 T, .int .i64 z] v12) := Lib.hid (HX23.out.below hz)
        replace HX24 : Hid (Box (g11) [.int .i64 xf.y, .int .i64 xf.k, .int .i64 xf.o, .int .i64 xf.d] v12) := Lib.hid (HX24.out.below hz)
        replace HR5 : Hid (URow v12 (.slice a l.length cap) (l)) := Lib.hid (HR5.out.below hz)
        replace HR11 : Hid (URow v12 (.slice a2 P.length c2) (P)) := Lib.hid (HR11.out.below hz)
        replace HR14 : Hid (URow v12 (.slice a3 D.length c3) (D)) := Lib.hid (HR14.out.below hz)
        replace HR19 : Hid (URow v12 (.slice a5 0 c5) ([])) := Lib.hid (HR19.out.below hz)
        replace HR20 : Hid (URow v12 (.slice a6 0 c6) ([])) := Lib.hid (HR20.out.below hz)
        replace HR23 : Hid (URow v12 (.slice a7 P.length c7) (P)) := Lib.hid (HR23.out.below hz)
        replace HB : Hid (Below w.heap.size w v12) := Lib.hid (below_trans HB.out hz)
        clear hz
        obtain ⟨q5_0, q5_1⟩ := box2 HX5.out
        have s5_ := HX5.out.1
        go_wp2_with fail
        (with_reducible refine (HRG.out _ HR5.out).mono ?_)
        rintro e v13 ⟨rfl, hz⟩
        unfold uv
        clear q5_0 q5_1 s5_
        obtain ⟨w13, hw13⟩ : ∃ W, (v13.alloc (.cells #[.int .i64 xg.y, .int .i64 xg.k, .int .i64 xg.o, .int .i64 xg.d] 30)) = W := ⟨_, rfl⟩
        have hal : Below v13.heap.size v13 w13 := hw13 ▸ al v13 _
        have HX25 : Hid (Box v13.heap.size [.int .i64 xg.y, .int .i64 xg.k, .int .i64 xg.o, .int .i64 xg.d] w13) := Lib.hid (hw13 ▸ Box.made v13 [.int .i64 xg.y, .int .i64 xg.k, .int .i64 xg.o, .int .i64 xg.d] 30)
        have hz2 : Below v12.heap.size v12 w13 := below_trans hz hal
        replace HX5 : Hid (Box (w.heap.size) [.int .i64 t, .slice a l.length cap] w13) := Lib.hid (HX5.out.below hz2)
        replace HX11 : Hid (Box (g2) [.int .i64 T, .slice a2 P.length c2] w13) := Lib.hid (HX11.out.below hz2)
        replace HX14 : Hid (Box (g3) [.int .i64 TD, .slice a3 D.length c3] w13) := Lib.hid (HX14.out.below hz2)
        replace HX15 : Hid (Box (g3 + 1) [.int .i64 dO.y, .int .i64 dO.k, .int .i64 dO.o, .int .i64 dO.d] w13) := Lib.hid (HX15.out.below hz2)
        replace HX17 : Hid (Box (g4) [.int .i64 xf.y, .int .i64 xf.k, .int .i64 xf.o, .int .i64 xf.d] w13) := Lib.hid (HX17.out.below hz2)
        replace HX19 : Hid (Box (g5) [.int .i64 0, .slice a5 0 c5] w13) := Lib.hid (HX19.out.below hz2)
        replace HX22 : Hid (Box (g6) [.int .i64 0, .slice none 0 0] w13) := Lib.hid (HX22.out.below hz2)
        replace HX23 : Hid (Box (g7) [.int .i64 T, .slice a7 P.length c7, .int .i64 T, .int .i64 z] w13) := Lib.hid (HX23.out.below hz2)
        replace HX24 : Hid (Box (g11) [.int .i64 xf.y, .int .i64 xf.k, .int .i64 xf.o, .int .i64 xf.d] w13) := Lib.hid (HX24.out.below hz2)
        replace HR5 : Hid (URow w13 (.slice a l.length cap) (l)) := Lib.hid (HR5.out.below hz2)
        replace HR11 : Hid (URow w13 (.slice a2 P.length c2) (P)) := Lib.hid (HR11.out.below hz2)
        replace HR14 : Hid (URow w13 (.slice a3 D.length c3) (D)) := Lib.hid (HR14.out.below hz2)
        replace HR19 : Hid (URow w13 (.slice a5 0 c5) ([])) := Lib.hid (HR19.out.below hz2)
        replace HR20 : Hid (URow w13 (.slice a6 0 c6) ([])) := Lib.hid (HR20.out.below hz2)
        replace HR23 : Hid (URow w13 (.slice a7 P.length c7) (P)) := Lib.hid (HR23.out.below hz2)
        replace HB : Hid (Below w.heap.size w w13) := Lib.hid (below_trans HB.out hz2)
        clear hz hz2 hal
        go_upto_region 21 with (fail)
        try rw [hw13]
        clear hw13
        generalize v13.heap.size = g13 at *
        rcases WD.out with ⟨e1, e2, e3, e4, e5⟩ | ⟨e1, e2, e3, e4, e5⟩
        · subst e1 e2 e3 e4 e5
          simp only [List.length_nil] at *
          replace HX15 : Hid (Box (g3 + 1) [.int .i64 0, .int .i64 0, .int .i64 0, .int .i64 0] _) := HX15
          replace HX25 : Hid (Box (g13) [.int .i64 0, .int .i64 0, .int .i64 0, .int .i64 0] _) := HX25
          obtain ⟨q25_0, q25_1, q25_2, q25_3⟩ := box4 HX25.out
          have s25_ := HX25.out.1
          obtain ⟨q15_0, q15_1, q15_2, q15_3⟩ := box4 HX15.out
          have s15_ := HX15.out.1
          obtain ⟨q14_0, q14_1⟩ := box2 HX14.out
          have s14_ := HX14.out.1
          obtain ⟨q22_0, q22_1⟩ := box2 HX22.out
          have s22_ := HX22.out.1
          go_wp2_with fail
          (with_reducible refine (HLK.out 0 _ _ [] _ HR14.out (URow.nil _)).mono ?_)
          rintro e v14 ⟨rfl, hz⟩
          clear q25_0 q25_1 q25_2 q25_3 s25_ q15_0 q15_1 q15_2 q15_3 s15_ q14_0 q14_1 s14_ q22_0 q22_1 s22_
          replace HX5 : Hid (Box (w.heap.size) [.int .i64 t, .slice a l.length cap] v14) := Lib.hid (HX5.out.below hz)
          replace HX11 : Hid (Box (g2) [.int .i64 T, .slice a2 P.length c2] v14) := Lib.hid (HX11.out.below hz)
          replace HX14 : Hid (Box (g3) [.int .i64 0, .slice a3 0 c3] v14) := Lib.hid (HX14.out.below hz)
          replace HX15 : Hid (Box (g3 + 1) [.int .i64 0, .int .i64 0, .int .i64 0, .int .i64 0] v14) := Lib.hid (HX15.out.below hz)
          replace HX17 : Hid (Box (g4) [.int .i64 xf.y, .int .i64 xf.k, .int .i64 xf.o, .int .i64 xf.d] v14) := Lib.hid (HX17.out.below hz)
          replace HX19 : Hid (Box (g5) [.int .i64 0, .slice a5 0 c5] v14) := Lib.hid (HX19.out.below hz)
          replace HX22 : Hid (Box (g6) [.int .i64 0, .slice none 0 0] v14) := Lib.hid (HX22.out.below hz)
          replace HX23 : Hid (Box (g7) [.int .i64 T, .slice a7 P.length c7, .int .i64 T, .int .i64 z] v14) := Lib.hid (HX23.out.below hz)
          replace HX24 : Hid (Box (g11) [.int .i64 xf.y, .int .i64 xf.k, .int .i64 xf.o, .int .i64 xf.d] v14) := Lib.hid (HX24.out.below hz)
          replace HX25 : Hid (Box (g13) [.int .i64 0, .int .i64 0, .int .i64 0, .int .i64 0] v14) := Lib.hid (HX25.out.below hz)
          replace HR5 : Hid (URow v14 (.slice a l.length cap) (l)) := Lib.hid (HR5.out.below hz)
          replace HR11 : Hid (URow v14 (.slice a2 P.length c2) (P)) := Lib.hid (HR11.out.below hz)
          replace HR14 : Hid (URow v14 (.slice a3 0 c3) ([])) := Lib.hid (HR14.out.below hz)
          replace HR19 : Hid (URow v14 (.slice a5 0 c5) ([])) := Lib.hid (HR19.out.below hz)
          replace HR20 : Hid (URow v14 (.slice a6 0 c6) ([])) := Lib.hid (HR20.out.below hz)
          replace HR23 : Hid (URow v14 (.slice a7 P.length c7) (P)) := Lib.hid (HR23.out.below hz)
          replace HB : Hid (Below w.heap.size w v14) := Lib.hid (below_trans HB.out hz)
          clear hz
          go_wp2_with fail
          go_ret
          exact ⟨rfl, HB.out⟩
        · replace e3 := e3.symm
          replace e4 := e4.symm
          subst e1 e2 e3 e4
          have e6 : (xg.y == 0) = false := by simpa using e5
          obtain ⟨q25_0, q25_1, q25_2, q25_3⟩ := box4 HX25.out
          have s25_ := HX25.out.1
          clear e5
          go_upto_region 23 with (fail)
          clear q25_0 q25_1 q25_2 q25_3 s25_
          refine wp_region_noPanic ?_
          refine wp_region_held_drew (S := fun W' => Below w13.heap.size w13 W') (by kernel_rfl) (dr w13) (fun hHeld => ?_)
          try simp only [Act.put, List.setIfInBounds_toArray, List.set_cons_zero, List.set_cons_succ]
          refine takeH 0 210 (.int .i64 0) calm_np rfl rfl (by kernel_rfl) (by kernel_rfl) (by kernel_rfl) (by rfl) (fun W' hSw => by go_simp) hHeld ?_
          try simp only [Act.put, List.setIfInBounds_toArray, List.set_cons_zero, List.set_cons_succ]
          refine takeH 1 211 (.bool true) calm_np rfl rfl (by kernel_rfl) (by kernel_rfl) (by kernel_rfl) (by rfl) (fun W' hSw => by go_simp) hHeld ?_
          try simp only [Act.put, List.setIfInBounds_toArray, List.set_cons_zero, List.set_cons_succ]
          refine takeH 2 212 (.bool true) calm_np rfl rfl (by kernel_rfl) (by kernel_rfl) (by kernel_rfl) (by rfl) (fun W' hSw => by go_simp) hHeld ?_
          try simp only [Act.put, List.setIfInBounds_toArray, List.set_cons_zero, List.set_cons_succ]
          refine takeH 3 213 (.agg #[.int .i64 xg.y, .int .i64 xg.k, .int .i64 xg.o, .int .i64 xg.d]) calm_np rfl rfl (by kernel_rfl) (by kernel_rfl) (by kernel_rfl) (by rfl) (fun W' hSw => by have g0 := (show _ = some (Value.int .i64 xg.y) from (HX15.out.below hSw).at 0 rfl); have g1 := (show _ = some (Value.int .i64 xg.k) from (HX15.out.below hSw).at 1 rfl); have g2 := (show _ = some (Value.int .i64 xg.o) from (HX15.out.below hSw).at 2 rfl); have g3 := (show _ = some (Value.int .i64 xg.d) from (HX15.out.below hSw).at 3 rfl); have hsz := (HX15.out.below hSw).1; go_simp) hHeld ?_
          try simp only [Act.put, List.setIfInBounds_toArray, List.set_cons_zero, List.set_cons_succ]
          refine takeH 4 214 (.agg #[.int .i64 xg.y, .int .i64 xg.k, .int .i64 xg.o, .int .i64 xg.d]) calm_np rfl rfl (by kernel_rfl) (by kernel_rfl) (by kernel_rfl) (by rfl) (fun W' hSw => by have g0 := (show _ = some (Value.int .i64 xg.y) from (HX25.out.below hSw).at 0 rfl); have g1 := (show _ = some (Value.int .i64 xg.k) from (HX25.out.below hSw).at 1 rfl); have g2 := (show _ = some (Value.int .i64 xg.o) from (HX25.out.below hSw).at 2 rfl); have g3 := (show _ = some (Value.int .i64 xg.d) from (HX25.out.below hSw).at 3 rfl); have hsz := (HX25.out.below hSw).1; go_simp) hHeld ?_
          try simp only [Act.put, List.setIfInBounds_toArray, List.set_cons_zero, List.set_cons_succ]
          refine takeH 5 215 (.bool true) calm_np rfl rfl (by kernel_rfl) (by kernel_rfl) (by kernel_rfl) (by rfl) (fun W' hSw => by go_simp) hHeld ?_
          try simp only [Act.put, List.setIfInBounds_toArray, List.set_cons_zero, List.set_cons_succ]
          refine takeH 6 216 (.bool true) calm_np rfl rfl (by kernel_rfl) (by kernel_rfl) (by kernel_rfl) (by rfl) (fun W' hSw => by go_simp) hHeld ?_
          try simp only [Act.put, List.setIfInBounds_toArray, List.set_cons_zero, List.set_cons_succ]
          refine takeH 7 217 (.bool true) calm_np rfl rfl (by kernel_rfl) (by kernel_rfl) (by kernel_rfl) (by rfl) (fun W' hSw => by go_simp) hHeld ?_
          try simp only [Act.put, List.setIfInBounds_toArray, List.set_cons_zero, List.set_cons_succ]
          refine takeH 8 218 (.agg #[.int .i64 t, .slice a3 (done l ky).length c3]) calm_np rfl rfl (by kernel_rfl) (by kernel_rfl) (by kernel_rfl) (by rfl) (fun W' hSw => by have g0 := (show _ = some (Value.int .i64 t) from (HX14.out.below hSw).at 0 rfl); have g1 := (show _ = some (Value.slice a3 (done l ky).length c3) from (HX14.out.below hSw).at 1 rfl); have hsz := (HX14.out.below hSw).1; go_simp) hHeld ?_
          try simp only [Act.put, List.setIfInBounds_toArray, List.set_cons_zero, List.set_cons_succ]
          refine takeH 9 219 (.agg #[.int .i64 t, .slice a l.length cap]) calm_np rfl rfl (by kernel_rfl) (by kernel_rfl) (by kernel_rfl) (by rfl) (fun W' hSw => by have g0 := (show _ = some (Value.int .i64 t) from (HX5.out.below hSw).at 0 rfl); have g1 := (show _ = some (Value.slice a l.length cap) from (HX5.out.below hSw).at 1 rfl); have hsz := (HX5.out.below hSw).1; go_simp) hHeld ?_
          try simp only [Act.put, List.setIfInBounds_toArray, List.set_cons_zero, List.set_cons_succ]
          refine takeH 10 220 (.int .i64 ky) calm_np rfl rfl (by kernel_rfl) (by kernel_rfl) (by kernel_rfl) (by rfl) (fun W' hSw => by go_simp) hHeld ?_
          try simp only [Act.put, List.setIfInBounds_toArray, List.set_cons_zero, List.set_cons_succ]
          refine wpAnyH_ready (rs := [11]) (by kernel_rfl) (by simp) (AllReadyH.cons rfl (fun K hK => ?_) AllReadyH.nil)
          go_simp
          (with_reducible refine (HRD.out _ (HR5.out.below hHeld)).mono ?_)
          rintro e V1 ⟨ud, rfl, hod, hz⟩
          unfold bv
          obtain ⟨ad, cd, rfl⟩ : ∃ a c, ud = .slice a (done l ky).length c := hod.row.slice
          have hh := below_trans hHeld hz
          clear hz
          go_simp
          refine hK.out _ _ hh (fun hHeld => ?_)
          clear hK hh
          try simp only [Act.put, List.setIfInBounds_toArray, List.set_cons_zero, List.set_cons_succ]
          refine wpAnyH_ready (rs := [12]) (by kernel_rfl) (by simp) (AllReadyH.cons rfl (fun K hK => ?_) AllReadyH.nil)
          go_simp
          (with_reducible refine (HLK.out t _ _ (done l ky) _ (HR14.out.below hHeld) hod.row).mono ?_)
          rintro e V2 ⟨rfl, hz⟩
          have hh := below_trans hHeld hz
          clear hz
          go_simp
          refine hK.out _ _ hh (fun hHeld => ?_)
          clear hK hh
          try simp only [Act.put, List.setIfInBounds_toArray, List.set_cons_zero, List.set_cons_succ]
          refine takeH 13 223 (.bool true) calm_np rfl rfl (by kernel_rfl) (by kernel_rfl) (by kernel_rfl) (by rfl) (fun W' hSw => by go_simp) hHeld ?_
          try simp only [Act.put, List.setIfInBounds_toArray, List.set_cons_zero, List.set_cons_succ]
          refine takeH 14 10 (.bool true) calm_np rfl rfl (by kernel_rfl) (by kernel_rfl) (by kernel_rfl) (by rfl) (fun W' hSw => by go_simp) hHeld ?_
          try simp only [Act.put, List.setIfInBounds_toArray, List.set_cons_zero, List.set_cons_succ]
          refine wpAnyH_done (by kernel_rfl) ?_ _
          refine NoPanic.normal ?_
          have HH := Lib.hid hHeld
          clear hHeld
          rename World => v15
          have hz := HH.out
          replace HX5 : Hid (Box (w.heap.size) [.int .i64 t, .slice a l.length cap] v15) := Lib.hid (HX5.out.below hz)
          replace HX11 : Hid (Box (g2) [.int .i64 T, .slice a2 P.length c2] v15) := Lib.hid (HX11.out.below hz)
          replace HX14 : Hid (Box (g3) [.int .i64 t, .slice a3 (done l ky).length c3] v15) := Lib.hid (HX14.out.below hz)
          replace HX15 : Hid (Box (g3 + 1) [.int .i64 xg.y, .int .i64 xg.k, .int .i64 xg.o, .int .i64 xg.d] v15) := Lib.hid (HX15.out.below hz)
          replace HX17 : Hid (Box (g4) [.int .i64 xf.y, .int .i64 xf.k, .int .i64 xf.o, .int .i64 xf.d] v15) := Lib.hid (HX17.out.below hz)
          replace HX19 : Hid (Box (g5) [.int .i64 0, .slice a5 0 c5] v15) := Lib.hid (HX19.out.below hz)
          replace HX22 : Hid (Box (g6) [.int .i64 0, .slice none 0 0] v15) := Lib.hid (HX22.out.below hz)
          replace HX23 : Hid (Box (g7) [.int .i64 T, .slice a7 P.length c7, .int .i64 T, .int .i64 z] v15) := Lib.hid (HX23.out.below hz)
          replace HX24 : Hid (Box (g11) [.int .i64 xf.y, .int .i64 xf.k, .int .i64 xf.o, .int .i64 xf.d] v15) := Lib.hid (HX24.out.below hz)
          replace HX25 : Hid (Box (g13) [.int .i64 xg.y, .int .i64 xg.k, .int .i64 xg.o, .int .i64 xg.d] v15) := Lib.hid (HX25.out.below hz)
          replace HR5 : Hid (URow v15 (.slice a l.length cap) (l)) := Lib.hid (HR5.out.below hz)
          replace HR11 : Hid (URow v15 (.slice a2 P.length c2) (P)) := Lib.hid (HR11.out.below hz)
          replace HR14 : Hid (URow v15 (.slice a3 (done l ky).length c3) (done l ky)) := Lib.hid (HR14.out.below hz)
          replace HR19 : Hid (URow v15 (.slice a5 0 c5) ([])) := Lib.hid (HR19.out.below hz)
          replace HR20 : Hid (URow v15 (.slice a6 0 c6) ([])) := Lib.hid (HR20.out.below hz)
          replace HR23 : Hid (URow v15 (.slice a7 P.length c7) (P)) := Lib.hid (HR23.out.below hz)
          replace HB : Hid (Below w.heap.size w v15) := Lib.hid (below_trans HB.out hz)
          clear hz HH
          go_wp2_with fail
          go_ret
          exact ⟨rfl, HB.out⟩
      · by_cases t2 : nw > 1099511627776
        · obtain ⟨e7, e8, e9, e10⟩ := WT1.out (.inr (fun h => by have h0 := h.1; have h1 := h.2; omega))
          subst e7 e8 e9 e10
          simp only [List.length_nil] at *
          clear WT1 WT2
          obtain ⟨q19_0, q19_1⟩ := box2 HX19.out
          have s19_ := HX19.out.1
          obtain ⟨q22_0, q22_1⟩ := box2 HX22.out
          have s22_ := HX22.out.1
          go_wp2_with fail
          (with_reducible refine (HLK.out 0 _ _ [] _ HR19.out (URow.nil _)).mono ?_)
          rintro e v12 ⟨rfl, hz⟩
          clear q19_0 q19_1 s19_ q22_0 q22_1 s22_
          replace HX5 : Hid (Box (w.heap.size) [.int .i64 t, .slice a l.length cap] v12) := Lib.hid (HX5.out.below hz)
          replace HX11 : Hid (Box (g2) [.int .i64 T, .slice a2 P.length c2] v12) := Lib.hid (HX11.out.below hz)
          replace HX14 : Hid (Box (g3) [.int .i64 TD, .slice a3 D.length c3] v12) := Lib.hid (HX14.out.below hz)
          replace HX15 : Hid (Box (g3 + 1) [.int .i64 dO.y, .int .i64 dO.k, .int .i64 dO.o, .int .i64 dO.d] v12) := Lib.hid (HX15.out.below hz)
          replace HX17 : Hid (Box (g4) [.int .i64 xf.y, .int .i64 xf.k, .int .i64 xf.o, .int .i64 xf.d] v12) := Lib.hid (HX17.out.below hz)
          replace HX19 : Hid (Box (g5) [.int .i64 0, .slice a5 0 c5] v12) := Lib.hid (HX19.out.below hz)
          replace HX22 : Hid (Box (g6) [.int .i64 0, .slice none 0 0] v12) := Lib.hid (HX22.out.below hz)
          replace HX23 : Hid (Box (g7) [.int .i64 T, .slice a7 P.length c7, .int .i64 T, .int .i64 z] v12) := Lib.hid (HX23.out.below hz)
          replace HX24 : Hid (Box (g11) [.int .i64 xf.y, .int .i64 xf.k, .int .i64 xf.o, .int .i64 xf.d] v12) := Lib.hid (HX24.out.below hz)
          replace HR5 : Hid (URow v12 (.slice a l.length cap) (l)) := Lib.hid (HR5.out.below hz)
          replace HR11 : Hid (URow v12 (.slice a2 P.length c2) (P)) := Lib.hid (HR11.out.below hz)
          replace HR14 : Hid (URow v12 (.slice a3 D.length c3) (D)) := Lib.hid (HR14.out.below hz)
          replace HR19 : Hid (URow v12 (.slice a5 0 c5) ([])) := Lib.hid (HR19.out.below hz)
          replace HR20 : Hid (URow v12 (.slice a6 0 c6) ([])) := Lib.hid (HR20.out.below hz)
          replace HR23 : Hid (URow v12 (.slice a7 P.length c7) (P)) := Lib.hid (HR23.out.below hz)
          replace HB : Hid (Below w.heap.size w v12) := Lib.hid (below_trans HB.out hz)
          clear hz
          obtain ⟨q5_0, q5_1⟩ := box2 HX5.out
          have s5_ := HX5.out.1
          go_wp2_with fail
          (with_reducible refine (HRG.out _ HR5.out).mono ?_)
          rintro e v13 ⟨rfl, hz⟩
          unfold uv
          clear q5_0 q5_1 s5_
          obtain ⟨w13, hw13⟩ : ∃ W, (v13.alloc (.cells #[.int .i64 xg.y, .int .i64 xg.k, .int .i64 xg.o, .int .i64 xg.d] 30)) = W := ⟨_, rfl⟩
          have hal : Below v13.heap.size v13 w13 := hw13 ▸ al v13 _
          have HX25 : Hid (Box v13.heap.size [.int .i64 xg.y, .int .i64 xg.k, .int .i64 xg.o, .int .i64 xg.d] w13) := Lib.hid (hw13 ▸ Box.made v13 [.int .i64 xg.y, .int .i64 xg.k, .int .i64 xg.o, .int .i64 xg.d] 30)
          have hz2 : Below v12.heap.size v12 w13 := below_trans hz hal
          replace HX5 : Hid (Box (w.heap.size) [.int .i64 t, .slice a l.length cap] w13) := Lib.hid (HX5.out.below hz2)
          replace HX11 : Hid (Box (g2) [.int .i64 T, .slice a2 P.length c2] w13) := Lib.hid (HX11.out.below hz2)
          replace HX14 : Hid (Box (g3) [.int .i64 TD, .slice a3 D.length c3] w13) := Lib.hid (HX14.out.below hz2)
          replace HX15 : Hid (Box (g3 + 1) [.int .i64 dO.y, .int .i64 dO.k, .int .i64 dO.o, .int .i64 dO.d] w13) := Lib.hid (HX15.out.below hz2)
          replace HX17 : Hid (Box (g4) [.int .i64 xf.y, .int .i64 xf.k, .int .i64 xf.o, .int .i64 xf.d] w13) := Lib.hid (HX17.out.below hz2)
          replace HX19 : Hid (Box (g5) [.int .i64 0, .slice a5 0 c5] w13) := Lib.hid (HX19.out.below hz2)
          replace HX22 : Hid (Box (g6) [.int .i64 0, .slice none 0 0] w13) := Lib.hid (HX22.out.below hz2)
          replace HX23 : Hid (Box (g7) [.int .i64 T, .slice a7 P.length c7, .int .i64 T, .int .i64 z] w13) := Lib.hid (HX23.out.below hz2)
          replace HX24 : Hid (Box (g11) [.int .i64 xf.y, .int .i64 xf.k, .int .i64 xf.o, .int .i64 xf.d] w13) := Lib.hid (HX24.out.below hz2)
          replace HR5 : Hid (URow w13 (.slice a l.length cap) (l)) := Lib.hid (HR5.out.below hz2)
          replace HR11 : Hid (URow w13 (.slice a2 P.length c2) (P)) := Lib.hid (HR11.out.below hz2)
          replace HR14 : Hid (URow w13 (.slice a3 D.length c3) (D)) := Lib.hid (HR14.out.below hz2)
          replace HR19 : Hid (URow w13 (.slice a5 0 c5) ([])) := Lib.hid (HR19.out.below hz2)
          replace HR20 : Hid (URow w13 (.slice a6 0 c6) ([])) := Lib.hid (HR20.out.below hz2)
          replace HR23 : Hid (URow w13 (.slice a7 P.length c7) (P)) := Lib.hid (HR23.out.below hz2)
          replace HB : Hid (Below w.heap.size w w13) := Lib.hid (below_trans HB.out hz2)
          clear hz hz2 hal
          go_upto_region 21 with (fail)
          try rw [hw13]
          clear hw13
          generalize v13.heap.size = g13 at *
          rcases WD.out with ⟨e1, e2, e3, e4, e5⟩ | ⟨e1, e2, e3, e4, e5⟩
          · subst e1 e2 e3 e4 e5
            simp only [List.length_nil] at *
            replace HX15 : Hid (Box (g3 + 1) [.int .i64 0, .int .i64 0, .int .i64 0, .int .i64 0] _) := HX15
            replace HX25 : Hid (Box (g13) [.int .i64 0, .int .i64 0, .int .i64 0, .int .i64 0] _) := HX25
            obtain ⟨q25_0, q25_1, q25_2, q25_3⟩ := box4 HX25.out
            have s25_ := HX25.out.1
            obtain ⟨q15_0, q15_1, q15_2, q15_3⟩ := box4 HX15.out
            have s15_ := HX15.out.1
            obtain ⟨q14_0, q14_1⟩ := box2 HX14.out
            have s14_ := HX14.out.1
            obtain ⟨q22_0, q22_1⟩ := box2 HX22.out
            have s22_ := HX22.out.1
            go_wp2_with fail
            (with_reducible refine (HLK.out 0 _ _ [] _ HR14.out (URow.nil _)).mono ?_)
            rintro e v14 ⟨rfl, hz⟩
            clear q25_0 q25_1 q25_2 q25_3 s25_ q15_0 q15_1 q15_2 q15_3 s15_ q14_0 q14_1 s14_ q22_0 q22_1 s22_
            replace HX5 : Hid (Box (w.heap.size) [.int .i64 t, .slice a l.length cap] v14) := Lib.hid (HX5.out.below hz)
            replace HX11 : Hid (Box (g2) [.int .i64 T, .slice a2 P.length c2] v14) := Lib.hid (HX11.out.below hz)
            replace HX14 : Hid (Box (g3) [.int .i64 0, .slice a3 0 c3] v14) := Lib.hid (HX14.out.below hz)
            replace HX15 : Hid (Box (g3 + 1) [.int .i64 0, .int .i64 0, .int .i64 0, .int .i64 0] v14) := Lib.hid (HX15.out.below hz)
            replace HX17 : Hid (Box (g4) [.int .i64 xf.y, .int .i64 xf.k, .int .i64 xf.o, .int .i64 xf.d] v14) := Lib.hid (HX17.out.below hz)
            replace HX19 : Hid (Box (g5) [.int .i64 0, .slice a5 0 c5] v14) := Lib.hid (HX19.out.below hz)
            replace HX22 : Hid (Box (g6) [.int .i64 0, .slice none 0 0] v14) := Lib.hid (HX22.out.below hz)
            replace HX23 : Hid (Box (g7) [.int .i64 T, .slice a7 P.length c7, .int .i64 T, .int .i64 z] v14) := Lib.hid (HX23.out.below hz)
            replace HX24 : Hid (Box (g11) [.int .i64 xf.y, .int .i64 xf.k, .int .i64 xf.o, .int .i64 xf.d] v14) := Lib.hid (HX24.out.below hz)
            replace HX25 : Hid (Box (g13) [.int .i64 0, .int .i64 0, .int .i64 0, .int .i64 0] v14) := Lib.hid (HX25.out.below hz)
            replace HR5 : Hid (URow v14 (.slice a l.length cap) (l)) := Lib.hid (HR5.out.below hz)
            replace HR11 : Hid (URow v14 (.slice a2 P.length c2) (P)) := Lib.hid (HR11.out.below hz)
            replace HR14 : Hid (URow v14 (.slice a3 0 c3) ([])) := Lib.hid (HR14.out.below hz)
            replace HR19 : Hid (URow v14 (.slice a5 0 c5) ([])) := Lib.hid (HR19.out.below hz)
            replace HR20 : Hid (URow v14 (.slice a6 0 c6) ([])) := Lib.hid (HR20.out.below hz)
            replace HR23 : Hid (URow v14 (.slice a7 P.length c7) (P)) := Lib.hid (HR23.out.below hz)
            replace HB : Hid (Below w.heap.size w v14) := Lib.hid (below_trans HB.out hz)
            clear hz
            go_wp2_with fail
            go_ret
            exact ⟨rfl, HB.out⟩
          · replace e3 := e3.symm
            replace e4 := e4.symm
            subst e1 e2 e3 e4
            have e6 : (xg.y == 0) = false := by simpa using e5
            obtain ⟨q25_0, q25_1, q25_2, q25_3⟩ := box4 HX25.out
            have s25_ := HX25.out.1
            clear e5
            go_upto_region 23 with (fail)
            clear q25_0 q25_1 q25_2 q25_3 s25_
            refine wp_region_noPanic ?_
            refine wp_region_held_drew (S := fun W' => Below w13.heap.size w13 W') (by kernel_rfl) (dr w13) (fun hHeld => ?_)
            try simp only [Act.put, List.setIfInBounds_toArray, List.set_cons_zero, List.set_cons_succ]
            refine takeH 0 210 (.int .i64 0) calm_np rfl rfl (by kernel_rfl) (by kernel_rfl) (by kernel_rfl) (by rfl) (fun W' hSw => by go_simp) hHeld ?_
            try simp only [Act.put, List.setIfInBounds_toArray, List.set_cons_zero, List.set_cons_succ]
            refine takeH 1 211 (.bool true) calm_np rfl rfl (by kernel_rfl) (by kernel_rfl) (by kernel_rfl) (by rfl) (fun W' hSw => by go_simp) hHeld ?_
            try simp only [Act.put, List.setIfInBounds_toArray, List.set_cons_zero, List.set_cons_succ]
            refine takeH 2 212 (.bool true) calm_np rfl rfl (by kernel_rfl) (by kernel_rfl) (by kernel_rfl) (by rfl) (fun W' hSw => by go_simp) hHeld ?_
            try simp only [Act.put, List.setIfInBounds_toArray, List.set_cons_zero, List.set_cons_succ]
            refine takeH 3 213 (.agg #[.int .i64 xg.y, .int .i64 xg.k, .int .i64 xg.o, .int .i64 xg.d]) calm_np rfl rfl (by kernel_rfl) (by kernel_rfl) (by kernel_rfl) (by rfl) (fun W' hSw => by have g0 := (show _ = some (Value.int .i64 xg.y) from (HX15.out.below hSw).at 0 rfl); have g1 := (show _ = some (Value.int .i64 xg.k) from (HX15.out.below hSw).at 1 rfl); have g2 := (show _ = some (Value.int .i64 xg.o) from (HX15.out.below hSw).at 2 rfl); have g3 := (show _ = some (Value.int .i64 xg.d) from (HX15.out.below hSw).at 3 rfl); have hsz := (HX15.out.below hSw).1; go_simp) hHeld ?_
            try simp only [Act.put, List.setIfInBounds_toArray, List.set_cons_zero, List.set_cons_succ]
            refine takeH 4 214 (.agg #[.int .i64 xg.y, .int .i64 xg.k, .int .i64 xg.o, .int .i64 xg.d]) calm_np rfl rfl (by kernel_rfl) (by kernel_rfl) (by kernel_rfl) (by rfl) (fun W' hSw => by have g0 := (show _ = some (Value.int .i64 xg.y) from (HX25.out.below hSw).at 0 rfl); have g1 := (show _ = some (Value.int .i64 xg.k) from (HX25.out.below hSw).at 1 rfl); have g2 := (show _ = some (Value.int .i64 xg.o) from (HX25.out.below hSw).at 2 rfl); have g3 := (show _ = some (Value.int .i64 xg.d) from (HX25.out.below hSw).at 3 rfl); have hsz := (HX25.out.below hSw).1; go_simp) hHeld ?_
            try simp only [Act.put, List.setIfInBounds_toArray, List.set_cons_zero, List.set_cons_succ]
            refine takeH 5 215 (.bool true) calm_np rfl rfl (by kernel_rfl) (by kernel_rfl) (by kernel_rfl) (by rfl) (fun W' hSw => by go_simp) hHeld ?_
            try simp only [Act.put, List.setIfInBounds_toArray, List.set_cons_zero, List.set_cons_succ]
            refine takeH 6 216 (.bool true) calm_np rfl rfl (by kernel_rfl) (by kernel_rfl) (by kernel_rfl) (by rfl) (fun W' hSw => by go_simp) hHeld ?_
            try simp only [Act.put, List.setIfInBounds_toArray, List.set_cons_zero, List.set_cons_succ]
            refine takeH 7 217 (.bool true) calm_np rfl rfl (by kernel_rfl) (by kernel_rfl) (by kernel_rfl) (by rfl) (fun W' hSw => by go_simp) hHeld ?_
            try simp only [Act.put, List.setIfInBounds_toArray, List.set_cons_zero, List.set_cons_succ]
            refine takeH 8 218 (.agg #[.int .i64 t, .slice a3 (done l ky).length c3]) calm_np rfl rfl (by kernel_rfl) (by kernel_rfl) (by kernel_rfl) (by rfl) (fun W' hSw => by have g0 := (show _ = some (Value.int .i64 t) from (HX14.out.below hSw).at 0 rfl); have g1 := (show _ = some (Value.slice a3 (done l ky).length c3) from (HX14.out.below hSw).at 1 rfl); have hsz := (HX14.out.below hSw).1; go_simp) hHeld ?_
            try simp only [Act.put, List.setIfInBounds_toArray, List.set_cons_zero, List.set_cons_succ]
            refine takeH 9 219 (.agg #[.int .i64 t, .slice a l.length cap]) calm_np rfl rfl (by kernel_rfl) (by kernel_rfl) (by kernel_rfl) (by rfl) (fun W' hSw => by have g0 := (show _ = some (Value.int .i64 t) from (HX5.out.below hSw).at 0 rfl); have g1 := (show _ = some (Value.slice a l.length cap) from (HX5.out.below hSw).at 1 rfl); have hsz := (HX5.out.below hSw).1; go_simp) hHeld ?_
            try simp only [Act.put, List.setIfInBounds_toArray, List.set_cons_zero, List.set_cons_succ]
            refine takeH 10 220 (.int .i64 ky) calm_np rfl rfl (by kernel_rfl) (by kernel_rfl) (by kernel_rfl) (by rfl) (fun W' hSw => by go_simp) hHeld ?_
            try simp only [Act.put, List.setIfInBounds_toArray, List.set_cons_zero, List.set_cons_succ]
            refine wpAnyH_ready (rs := [11]) (by kernel_rfl) (by simp) (AllReadyH.cons rfl (fun K hK => ?_) AllReadyH.nil)
            go_simp
            (with_reducible refine (HRD.out _ (HR5.out.below hHeld)).mono ?_)
            rintro e V1 ⟨ud, rfl, hod, hz⟩
            unfold bv
            obtain ⟨ad, cd, rfl⟩ : ∃ a c, ud = .slice a (done l ky).length c := hod.row.slice
            have hh := below_trans hHeld hz
            clear hz
            go_simp
            refine hK.out _ _ hh (fun hHeld => ?_)
            clear hK hh
            try simp only [Act.put, List.setIfInBounds_toArray, List.set_cons_zero, List.set_cons_succ]
            refine wpAnyH_ready (rs := [12]) (by kernel_rfl) (by simp) (AllReadyH.cons rfl (fun K hK => ?_) AllReadyH.nil)
            go_simp
            (with_reducible refine (HLK.out t _ _ (done l ky) _ (HR14.out.below hHeld) hod.row).mono ?_)
            rintro e V2 ⟨rfl, hz⟩
            have hh := below_trans hHeld hz
            clear hz
            go_simp
            refine hK.out _ _ hh (fun hHeld => ?_)
            clear hK hh
            try simp only [Act.put, List.setIfInBounds_toArray, List.set_cons_zero, List.set_cons_succ]
            refine takeH 13 223 (.bool true) calm_np rfl rfl (by kernel_rfl) (by kernel_rfl) (by kernel_rfl) (by rfl) (fun W' hSw => by go_simp) hHeld ?_
            try simp only [Act.put, List.setIfInBounds_toArray, List.set_cons_zero, List.set_cons_succ]
            refine takeH 14 10 (.bool true) calm_np rfl rfl (by kernel_rfl) (by kernel_rfl) (by kernel_rfl) (by rfl) (fun W' hSw => by go_simp) hHeld ?_
            try simp only [Act.put, List.setIfInBounds_toArray, List.set_cons_zero, List.set_cons_succ]
            refine wpAnyH_done (by kernel_rfl) ?_ _
            refine NoPanic.normal ?_
            have HH := Lib.hid hHeld
            clear hHeld
            rename World => v15
            have hz := HH.out
            replace HX5 : Hid (Box (w.heap.size) [.int .i64 t, .slice a l.length cap] v15) := Lib.hid (HX5.out.below hz)
            replace HX11 : Hid (Box (g2) [.int .i64 T, .slice a2 P.length c2] v15) := Lib.hid (HX11.out.below hz)
            replace HX14 : Hid (Box (g3) [.int .i64 t, .slice a3 (done l ky).length c3] v15) := Lib.hid (HX14.out.below hz)
            replace HX15 : Hid (Box (g3 + 1) [.int .i64 xg.y, .int .i64 xg.k, .int .i64 xg.o, .int .i64 xg.d] v15) := Lib.hid (HX15.out.below hz)
            replace HX17 : Hid (Box (g4) [.int .i64 xf.y, .int .i64 xf.k, .int .i64 xf.o, .int .i64 xf.d] v15) := Lib.hid (HX17.out.below hz)
            replace HX19 : Hid (Box (g5) [.int .i64 0, .slice a5 0 c5] v15) := Lib.hid (HX19.out.below hz)
            replace HX22 : Hid (Box (g6) [.int .i64 0, .slice none 0 0] v15) := Lib.hid (HX22.out.below hz)
            replace HX23 : Hid (Box (g7) [.int .i64 T, .slice a7 P.length c7, .int .i64 T, .int .i64 z] v15) := Lib.hid (HX23.out.below hz)
            replace HX24 : Hid (Box (g11) [.int .i64 xf.y, .int .i64 xf.k, .int .i64 xf.o, .int .i64 xf.d] v15) := Lib.hid (HX24.out.below hz)
            replace HX25 : Hid (Box (g13) [.int .i64 xg.y, .int .i64 xg.k, .int .i64 xg.o, .int .i64 xg.d] v15) := Lib.hid (HX25.out.below hz)
            replace HR5 : Hid (URow v15 (.slice a l.length cap) (l)) := Lib.hid (HR5.out.below hz)
            replace HR11 : Hid (URow v15 (.slice a2 P.length c2) (P)) := Lib.hid (HR11.out.below hz)
            replace HR14 : Hid (URow v15 (.slice a3 (done l ky).length c3) (done l ky)) := Lib.hid (HR14.out.below hz)
            replace HR19 : Hid (URow v15 (.slice a5 0 c5) ([])) := Lib.hid (HR19.out.below hz)
            replace HR20 : Hid (URow v15 (.slice a6 0 c6) ([])) := Lib.hid (HR20.out.below hz)
            replace HR23 : Hid (URow v15 (.slice a7 P.length c7) (P)) := Lib.hid (HR23.out.below hz)
            replace HB : Hid (Below w.heap.size w v15) := Lib.hid (below_trans HB.out hz)
            clear hz HH
            go_wp2_with fail
            go_ret
            exact ⟨rfl, HB.out⟩
        · obtain ⟨e7, e8, e9, e10⟩ := WT2.out ⟨by first | trivial | rfl, ⟨by omega, by omega⟩⟩
          replace e9 := e9.symm
          subst e7 e8 e9 e10
          clear WT1 WT2
          have HRT2 := Lib.hid (HRT.out (by omega) (by omega))
          go_upto_region 18 with (fail)
          refine wp_region_noPanic ?_
          refine wp_region_held_drew (S := fun W' => Below w11.heap.size w11 W') (by kernel_rfl) (dr w11) (fun hHeld => ?_)
          try simp only [Act.put, List.setIfInBounds_toArray, List.set_cons_zero, List.set_cons_succ]
          refine takeH 0 174 (.int .i64 0) calm_np rfl rfl (by kernel_rfl) (by kernel_rfl) (by kernel_rfl) (by rfl) (fun W' hSw => by go_simp) hHeld ?_
          try simp only [Act.put, List.setIfInBounds_toArray, List.set_cons_zero, List.set_cons_succ]
          refine takeH 1 175 (.bool false) calm_np rfl rfl (by kernel_rfl) (by kernel_rfl) (by kernel_rfl) (by rfl) (fun W' hSw => by go_simp) hHeld ?_
          try simp only [Act.put, List.setIfInBounds_toArray, List.set_cons_zero, List.set_cons_succ]
          refine takeH 2 176 (.bool false) calm_np rfl rfl (by kernel_rfl) (by kernel_rfl) (by kernel_rfl) (by rfl) (fun W' hSw => by go_simp) hHeld ?_
          try simp only [Act.put, List.setIfInBounds_toArray, List.set_cons_zero, List.set_cons_succ]
          refine takeH 3 177 (.agg #[.int .i64 t, .slice a5 (tell l nw).length c5]) calm_np rfl rfl (by kernel_rfl) (by kernel_rfl) (by kernel_rfl) (by rfl) (fun W' hSw => by have g0 := (show _ = some (Value.int .i64 t) from (HX19.out.below hSw).at 0 rfl); have g1 := (show _ = some (Value.slice a5 (tell l nw).length c5) from (HX19.out.below hSw).at 1 rfl); have hsz := (HX19.out.below hSw).1; go_simp) hHeld ?_
          try simp only [Act.put, List.setIfInBounds_toArray, List.set_cons_zero, List.set_cons_succ]
          refine takeH 4 178 (.agg #[.int .i64 t, .slice a l.length cap]) calm_np rfl rfl (by kernel_rfl) (by kernel_rfl) (by kernel_rfl) (by rfl) (fun W' hSw => by have g0 := (show _ = some (Value.int .i64 t) from (HX5.out.below hSw).at 0 rfl); have g1 := (show _ = some (Value.slice a l.length cap) from (HX5.out.below hSw).at 1 rfl); have hsz := (HX5.out.below hSw).1; go_simp) hHeld ?_
          try simp only [Act.put, List.setIfInBounds_toArray, List.set_cons_zero, List.set_cons_succ]
          refine takeH 5 179 (.int .i64 nw) calm_np rfl rfl (by kernel_rfl) (by kernel_rfl) (by kernel_rfl) (by rfl) (fun W' hSw => by go_simp) hHeld ?_
          try simp only [Act.put, List.setIfInBounds_toArray, List.set_cons_zero, List.set_cons_succ]
          refine wpAnyH_ready (rs := [6]) (by kernel_rfl) (by simp) (AllReadyH.cons rfl (fun K hK => ?_) AllReadyH.nil)
          go_simp
          (with_reducible refine (HRT2.out _ (HR5.out.below hHeld)).mono ?_)
          rintro e V1 ⟨ud, rfl, hod, hz⟩
          unfold bv
          obtain ⟨ad, cd, rfl⟩ : ∃ a c, ud = .slice a (tell l nw).length c := hod.row.slice
          have hh := below_trans hHeld hz
          clear hz
          go_simp
          refine hK.out _ _ hh (fun hHeld => ?_)
          clear hK hh
          try simp only [Act.put, List.setIfInBounds_toArray, List.set_cons_zero, List.set_cons_succ]
          refine wpAnyH_ready (rs := [7]) (by kernel_rfl) (by simp) (AllReadyH.cons rfl (fun K hK => ?_) AllReadyH.nil)
          go_simp
          (with_reducible refine (HLK.out t _ _ (tell l nw) _ (HR19.out.below hHeld) hod.row).mono ?_)
          rintro e V2 ⟨rfl, hz⟩
          have hh := below_trans hHeld hz
          clear hz
          go_simp
          refine hK.out _ _ hh (fun hHeld => ?_)
          clear hK hh
          try simp only [Act.put, List.setIfInBounds_toArray, List.set_cons_zero, List.set_cons_succ]
          refine takeH 8 182 (.bool false) calm_np rfl rfl (by kernel_rfl) (by kernel_rfl) (by kernel_rfl) (by rfl) (fun W' hSw => by go_simp) hHeld ?_
          try simp only [Act.put, List.setIfInBounds_toArray, List.set_cons_zero, List.set_cons_succ]
          refine takeH 9 183 (.bool false) calm_np rfl rfl (by kernel_rfl) (by kernel_rfl) (by kernel_rfl) (by rfl) (fun W' hSw => by go_simp) hHeld ?_
          try simp only [Act.put, List.setIfInBounds_toArray, List.set_cons_zero, List.set_cons_succ]
          refine takeH 10 184 (.bool false) calm_np rfl rfl (by kernel_rfl) (by kernel_rfl) (by kernel_rfl) (by rfl) (fun W' hSw => by go_simp) hHeld ?_
          try simp only [Act.put, List.setIfInBounds_toArray, List.set_cons_zero, List.set_cons_succ]
          refine takeH 11 185 (.slice a6 (told l nw).length c6) calm_np rfl rfl (by kernel_rfl) (by kernel_rfl) (by kernel_rfl) (by rfl) (fun W' hSw => by go_simp) hHeld ?_
          try simp only [Act.put, List.setIfInBounds_toArray, List.set_cons_zero, List.set_cons_succ]
          refine takeH 12 186 (.agg #[.int .i64 t, .slice a l.length cap]) calm_np rfl rfl (by kernel_rfl) (by kernel_rfl) (by kernel_rfl) (by rfl) (fun W' hSw => by have g0 := (show _ = some (Value.int .i64 t) from (HX5.out.below hSw).at 0 rfl); have g1 := (show _ = some (Value.slice a l.length cap) from (HX5.out.below hSw).at 1 rfl); have hsz := (HX5.out.below hSw).1; go_simp) hHeld ?_
          try simp only [Act.put, List.setIfInBounds_toArray, List.set_cons_zero, List.set_cons_succ]
          refine takeH 13 187 (.int .i64 nw) calm_np rfl rfl (by kernel_rfl) (by kernel_rfl) (by kernel_rfl) (by rfl) (fun W' hSw => by go_simp) hHeld ?_
          try simp only [Act.put, List.setIfInBounds_toArray, List.set_cons_zero, List.set_cons_succ]
          refine wpAnyH_ready (rs := [14]) (by kernel_rfl) (by simp) (AllReadyH.cons rfl (fun K hK => ?_) AllReadyH.nil)
          go_simp
          (with_reducible refine (HRO.out _ (HR5.out.below hHeld)).mono ?_)
          rintro e V3 ⟨ue, rfl, hoe, hz⟩
          obtain ⟨ae, ce, rfl⟩ : ∃ a c, ue = .slice a (told l nw).length c := hoe.row.slice
          have hh := below_trans hHeld hz
          clear hz
          go_simp
          refine hK.out _ _ hh (fun hHeld => ?_)
          clear hK hh
          try simp only [Act.put, List.setIfInBounds_toArray, List.set_cons_zero, List.set_cons_succ]
          refine wpAnyH_ready (rs := [15]) (by kernel_rfl) (by simp) (AllReadyH.cons rfl (fun K hK => ?_) AllReadyH.nil)
          go_simp
          (with_reducible refine (HSM.out _ _ (told l nw) _ (HR20.out.below hHeld) hoe.row).mono ?_)
          rintro e V4 ⟨rfl, hz⟩
          have hh := below_trans hHeld hz
          clear hz
          go_simp
          refine hK.out _ _ hh (fun hHeld => ?_)
          clear hK hh
          try simp only [Act.put, List.setIfInBounds_toArray, List.set_cons_zero, List.set_cons_succ]
          refine takeH 16 190 (.bool false) calm_np rfl rfl (by kernel_rfl) (by kernel_rfl) (by kernel_rfl) (by rfl) (fun W' hSw => by go_simp) hHeld ?_
          try simp only [Act.put, List.setIfInBounds_toArray, List.set_cons_zero, List.set_cons_succ]
          refine takeH 17 191 (.bool false) calm_np rfl rfl (by kernel_rfl) (by kernel_rfl) (by kernel_rfl) (by rfl) (fun W' hSw => by go_simp) hHeld ?_
          try simp only [Act.put, List.setIfInBounds_toArray, List.set_cons_zero, List.set_cons_succ]
          refine wpAnyH_done (by kernel_rfl) ?_ _
          refine NoPanic.normal ?_
          have HH := Lib.hid hHeld
          clear hHeld
          rename World => v13
          have hz := HH.out
          replace HX5 : Hid (Box (w.heap.size) [.int .i64 t, .slice a l.length cap] v13) := Lib.hid (HX5.out.below hz)
          replace HX11 : Hid (Box (g2) [.int .i64 T, .slice a2 P.length c2] v13) := Lib.hid (HX11.out.below hz)
          replace HX14 : Hid (Box (g3) [.int .i64 TD, .slice a3 D.length c3] v13) := Lib.hid (HX14.out.below hz)
          replace HX15 : Hid (Box (g3 + 1) [.int .i64 dO.y, .int .i64 dO.k, .int .i64 dO.o, .int .i64 dO.d] v13) := Lib.hid (HX15.out.below hz)
          replace HX17 : Hid (Box (g4) [.int .i64 xf.y, .int .i64 xf.k, .int .i64 xf.o, .int .i64 xf.d] v13) := Lib.hid (HX17.out.below hz)
          replace HX19 : Hid (Box (g5) [.int .i64 t, .slice a5 (tell l nw).length c5] v13) := Lib.hid (HX19.out.below hz)
          replace HX22 : Hid (Box (g6) [.int .i64 0, .slice none 0 0] v13) := Lib.hid (HX22.out.below hz)
          replace HX23 : Hid (Box (g7) [.int .i64 T, .slice a7 P.length c7, .int .i64 T, .int .i64 z] v13) := Lib.hid (HX23.out.below hz)
          replace HX24 : Hid (Box (g11) [.int .i64 xf.y, .int .i64 xf.k, .int .i64 xf.o, .int .i64 xf.d] v13) := Lib.hid (HX24.out.below hz)
          replace HR5 : Hid (URow v13 (.slice a l.length cap) (l)) := Lib.hid (HR5.out.below hz)
          replace HR11 : Hid (URow v13 (.slice a2 P.length c2) (P)) := Lib.hid (HR11.out.below hz)
          replace HR14 : Hid (URow v13 (.slice a3 D.length c3) (D)) := Lib.hid (HR14.out.below hz)
          replace HR19 : Hid (URow v13 (.slice a5 (tell l nw).length c5) (tell l nw)) := Lib.hid (HR19.out.below hz)
          replace HR20 : Hid (URow v13 (.slice a6 (told l nw).length c6) (told l nw)) := Lib.hid (HR20.out.below hz)
          replace HR23 : Hid (URow v13 (.slice a7 P.length c7) (P)) := Lib.hid (HR23.out.below hz)
          replace HB : Hid (Below w.heap.size w v13) := Lib.hid (below_trans HB.out hz)
          clear hz HH
          obtain ⟨q5_0, q5_1⟩ := box2 HX5.out
          have s5_ := HX5.out.1
          go_wp2_with fail
          (with_reducible refine (HRG.out _ HR5.out).mono ?_)
          rintro e v14 ⟨rfl, hz⟩
          unfold uv
          clear q5_0 q5_1 s5_
          obtain ⟨w14, hw14⟩ : ∃ W, (v14.alloc (.cells #[.int .i64 xg.y, .int .i64 xg.k, .int .i64 xg.o, .int .i64 xg.d] 30)) = W := ⟨_, rfl⟩
          have hal : Below v14.heap.size v14 w14 := hw14 ▸ al v14 _
          have HX25 : Hid (Box v14.heap.size [.int .i64 xg.y, .int .i64 xg.k, .int .i64 xg.o, .int .i64 xg.d] w14) := Lib.hid (hw14 ▸ Box.made v14 [.int .i64 xg.y, .int .i64 xg.k, .int .i64 xg.o, .int .i64 xg.d] 30)
          have hz2 : Below v13.heap.size v13 w14 := below_trans hz hal
          replace HX5 : Hid (Box (w.heap.size) [.int .i64 t, .slice a l.length cap] w14) := Lib.hid (HX5.out.below hz2)
          replace HX11 : Hid (Box (g2) [.int .i64 T, .slice a2 P.length c2] w14) := Lib.hid (HX11.out.below hz2)
          replace HX14 : Hid (Box (g3) [.int .i64 TD, .slice a3 D.length c3] w14) := Lib.hid (HX14.out.below hz2)
          replace HX15 : Hid (Box (g3 + 1) [.int .i64 dO.y, .int .i64 dO.k, .int .i64 dO.o, .int .i64 dO.d] w14) := Lib.hid (HX15.out.below hz2)
          replace HX17 : Hid (Box (g4) [.int .i64 xf.y, .int .i64 xf.k, .int .i64 xf.o, .int .i64 xf.d] w14) := Lib.hid (HX17.out.below hz2)
          replace HX19 : Hid (Box (g5) [.int .i64 t, .slice a5 (tell l nw).length c5] w14) := Lib.hid (HX19.out.below hz2)
          replace HX22 : Hid (Box (g6) [.int .i64 0, .slice none 0 0] w14) := Lib.hid (HX22.out.below hz2)
          replace HX23 : Hid (Box (g7) [.int .i64 T, .slice a7 P.length c7, .int .i64 T, .int .i64 z] w14) := Lib.hid (HX23.out.below hz2)
          replace HX24 : Hid (Box (g11) [.int .i64 xf.y, .int .i64 xf.k, .int .i64 xf.o, .int .i64 xf.d] w14) := Lib.hid (HX24.out.below hz2)
          replace HR5 : Hid (URow w14 (.slice a l.length cap) (l)) := Lib.hid (HR5.out.below hz2)
          replace HR11 : Hid (URow w14 (.slice a2 P.length c2) (P)) := Lib.hid (HR11.out.below hz2)
          replace HR14 : Hid (URow w14 (.slice a3 D.length c3) (D)) := Lib.hid (HR14.out.below hz2)
          replace HR19 : Hid (URow w14 (.slice a5 (tell l nw).length c5) (tell l nw)) := Lib.hid (HR19.out.below hz2)
          replace HR20 : Hid (URow w14 (.slice a6 (told l nw).length c6) (told l nw)) := Lib.hid (HR20.out.below hz2)
          replace HR23 : Hid (URow w14 (.slice a7 P.length c7) (P)) := Lib.hid (HR23.out.below hz2)
          replace HB : Hid (Below w.heap.size w w14) := Lib.hid (below_trans HB.out hz2)
          clear hz hz2 hal
          go_upto_region 21 with (fail)
          try rw [hw14]
          clear hw14
          generalize v14.heap.size = g14 at *
          rcases WD.out with ⟨e1, e2, e3, e4, e5⟩ | ⟨e1, e2, e3, e4, e5⟩
          · subst e1 e2 e3 e4 e5
            simp only [List.length_nil] at *
            replace HX15 : Hid (Box (g3 + 1) [.int .i64 0, .int .i64 0, .int .i64 0, .int .i64 0] _) := HX15
            replace HX25 : Hid (Box (g14) [.int .i64 0, .int .i64 0, .int .i64 0, .int .i64 0] _) := HX25
            obtain ⟨q25_0, q25_1, q25_2, q25_3⟩ := box4 HX25.out
            have s25_ := HX25.out.1
            obtain ⟨q15_0, q15_1, q15_2, q15_3⟩ := box4 HX15.out
            have s15_ := HX15.out.1
            obtain ⟨q14_0, q14_1⟩ := box2 HX14.out
            have s14_ := HX14.out.1
            obtain ⟨q22_0, q22_1⟩ := box2 HX22.out
            have s22_ := HX22.out.1
            go_wp2_with fail
            (with_reducible refine (HLK.out 0 _ _ [] _ HR14.out (URow.nil _)).mono ?_)
            rintro e v15 ⟨rfl, hz⟩
            clear q25_0 q25_1 q25_2 q25_3 s25_ q15_0 q15_1 q15_2 q15_3 s15_ q14_0 q14_1 s14_ q22_0 q22_1 s22_
            replace HX5 : Hid (Box (w.heap.size) [.int .i64 t, .slice a l.length cap] v15) := Lib.hid (HX5.out.below hz)
            replace HX11 : Hid (Box (g2) [.int .i64 T, .slice a2 P.length c2] v15) := Lib.hid (HX11.out.below hz)
            replace HX14 : Hid (Box (g3) [.int .i64 0, .slice a3 0 c3] v15) := Lib.hid (HX14.out.below hz)
            replace HX15 : Hid (Box (g3 + 1) [.int .i64 0, .int .i64 0, .int .i64 0, .int .i64 0] v15) := Lib.hid (HX15.out.below hz)
            replace HX17 : Hid (Box (g4) [.int .i64 xf.y, .int .i64 xf.k, .int .i64 xf.o, .int .i64 xf.d] v15) := Lib.hid (HX17.out.below hz)
            replace HX19 : Hid (Box (g5) [.int .i64 t, .slice a5 (tell l nw).length c5] v15) := Lib.hid (HX19.out.below hz)
            replace HX22 : Hid (Box (g6) [.int .i64 0, .slice none 0 0] v15) := Lib.hid (HX22.out.below hz)
            replace HX23 : Hid (Box (g7) [.int .i64 T, .slice a7 P.length c7, .int .i64 T, .int .i64 z] v15) := Lib.hid (HX23.out.below hz)
            replace HX24 : Hid (Box (g11) [.int .i64 xf.y, .int .i64 xf.k, .int .i64 xf.o, .int .i64 xf.d] v15) := Lib.hid (HX24.out.below hz)
            replace HX25 : Hid (Box (g14) [.int .i64 0, .int .i64 0, .int .i64 0, .int .i64 0] v15) := Lib.hid (HX25.out.below hz)
            replace HR5 : Hid (URow v15 (.slice a l.length cap) (l)) := Lib.hid (HR5.out.below hz)
            replace HR11 : Hid (URow v15 (.slice a2 P.length c2) (P)) := Lib.hid (HR11.out.below hz)
            replace HR14 : Hid (URow v15 (.slice a3 0 c3) ([])) := Lib.hid (HR14.out.below hz)
            replace HR19 : Hid (URow v15 (.slice a5 (tell l nw).length c5) (tell l nw)) := Lib.hid (HR19.out.below hz)
            replace HR20 : Hid (URow v15 (.slice a6 (told l nw).length c6) (told l nw)) := Lib.hid (HR20.out.below hz)
            replace HR23 : Hid (URow v15 (.slice a7 P.length c7) (P)) := Lib.hid (HR23.out.below hz)
            replace HB : Hid (Below w.heap.size w v15) := Lib.hid (below_trans HB.out hz)
            clear hz
            go_wp2_with fail
            go_ret
            exact ⟨rfl, HB.out⟩
          · replace e3 := e3.symm
            replace e4 := e4.symm
            subst e1 e2 e3 e4
            have e6 : (xg.y == 0) = false := by simpa using e5
            obtain ⟨q25_0, q25_1, q25_2, q25_3⟩ := box4 HX25.out
            have s25_ := HX25.out.1
            clear e5
            go_upto_region 23 with (fail)
            clear q25_0 q25_1 q25_2 q25_3 s25_
            refine wp_region_noPanic ?_
            refine wp_region_held_drew (S := fun W' => Below w14.heap.size w14 W') (by kernel_rfl) (dr w14) (fun hHeld => ?_)
            try simp only [Act.put, List.setIfInBounds_toArray, List.set_cons_zero, List.set_cons_succ]
            refine takeH 0 210 (.int .i64 0) calm_np rfl rfl (by kernel_rfl) (by kernel_rfl) (by kernel_rfl) (by rfl) (fun W' hSw => by go_simp) hHeld ?_
            try simp only [Act.put, List.setIfInBounds_toArray, List.set_cons_zero, List.set_cons_succ]
            refine takeH 1 211 (.bool true) calm_np rfl rfl (by kernel_rfl) (by kernel_rfl) (by kernel_rfl) (by rfl) (fun W' hSw => by go_simp) hHeld ?_
            try simp only [Act.put, List.setIfInBounds_toArray, List.set_cons_zero, List.set_cons_succ]
            refine takeH 2 212 (.bool true) calm_np rfl rfl (by kernel_rfl) (by kernel_rfl) (by kernel_rfl) (by rfl) (fun W' hSw => by go_simp) hHeld ?_
            try simp only [Act.put, List.setIfInBounds_toArray, List.set_cons_zero, List.set_cons_succ]
            refine takeH 3 213 (.agg #[.int .i64 xg.y, .int .i64 xg.k, .int .i64 xg.o, .int .i64 xg.d]) calm_np rfl rfl (by kernel_rfl) (by kernel_rfl) (by kernel_rfl) (by rfl) (fun W' hSw => by have g0 := (show _ = some (Value.int .i64 xg.y) from (HX15.out.below hSw).at 0 rfl); have g1 := (show _ = some (Value.int .i64 xg.k) from (HX15.out.below hSw).at 1 rfl); have g2 := (show _ = some (Value.int .i64 xg.o) from (HX15.out.below hSw).at 2 rfl); have g3 := (show _ = some (Value.int .i64 xg.d) from (HX15.out.below hSw).at 3 rfl); have hsz := (HX15.out.below hSw).1; go_simp) hHeld ?_
            try simp only [Act.put, List.setIfInBounds_toArray, List.set_cons_zero, List.set_cons_succ]
            refine takeH 4 214 (.agg #[.int .i64 xg.y, .int .i64 xg.k, .int .i64 xg.o, .int .i64 xg.d]) calm_np rfl rfl (by kernel_rfl) (by kernel_rfl) (by kernel_rfl) (by rfl) (fun W' hSw => by have g0 := (show _ = some (Value.int .i64 xg.y) from (HX25.out.below hSw).at 0 rfl); have g1 := (show _ = some (Value.int .i64 xg.k) from (HX25.out.below hSw).at 1 rfl); have g2 := (show _ = some (Value.int .i64 xg.o) from (HX25.out.below hSw).at 2 rfl); have g3 := (show _ = some (Value.int .i64 xg.d) from (HX25.out.below hSw).at 3 rfl); have hsz := (HX25.out.below hSw).1; go_simp) hHeld ?_
            try simp only [Act.put, List.setIfInBounds_toArray, List.set_cons_zero, List.set_cons_succ]
            refine takeH 5 215 (.bool true) calm_np rfl rfl (by kernel_rfl) (by kernel_rfl) (by kernel_rfl) (by rfl) (fun W' hSw => by go_simp) hHeld ?_
            try simp only [Act.put, List.setIfInBounds_toArray, List.set_cons_zero, List.set_cons_succ]
            refine takeH 6 216 (.bool true) calm_np rfl rfl (by kernel_rfl) (by kernel_rfl) (by kernel_rfl) (by rfl) (fun W' hSw => by go_simp) hHeld ?_
            try simp only [Act.put, List.setIfInBounds_toArray, List.set_cons_zero, List.set_cons_succ]
            refine takeH 7 217 (.bool true) calm_np rfl rfl (by kernel_rfl) (by kernel_rfl) (by kernel_rfl) (by rfl) (fun W' hSw => by go_simp) hHeld ?_
            try simp only [Act.put, List.setIfInBounds_toArray, List.set_cons_zero, List.set_cons_succ]
            refine takeH 8 218 (.agg #[.int .i64 t, .slice a3 (done l ky).length c3]) calm_np rfl rfl (by kernel_rfl) (by kernel_rfl) (by kernel_rfl) (by rfl) (fun W' hSw => by have g0 := (show _ = some (Value.int .i64 t) from (HX14.out.below hSw).at 0 rfl); have g1 := (show _ = some (Value.slice a3 (done l ky).length c3) from (HX14.out.below hSw).at 1 rfl); have hsz := (HX14.out.below hSw).1; go_simp) hHeld ?_
            try simp only [Act.put, List.setIfInBounds_toArray, List.set_cons_zero, List.set_cons_succ]
            refine takeH 9 219 (.agg #[.int .i64 t, .slice a l.length cap]) calm_np rfl rfl (by kernel_rfl) (by kernel_rfl) (by kernel_rfl) (by rfl) (fun W' hSw => by have g0 := (show _ = some (Value.int .i64 t) from (HX5.out.below hSw).at 0 rfl); have g1 := (show _ = some (Value.slice a l.length cap) from (HX5.out.below hSw).at 1 rfl); have hsz := (HX5.out.below hSw).1; go_simp) hHeld ?_
            try simp only [Act.put, List.setIfInBounds_toArray, List.set_cons_zero, List.set_cons_succ]
            refine takeH 10 220 (.int .i64 ky) calm_np rfl rfl (by kernel_rfl) (by kernel_rfl) (by kernel_rfl) (by rfl) (fun W' hSw => by go_simp) hHeld ?_
            try simp only [Act.put, List.setIfInBounds_toArray, List.set_cons_zero, List.set_cons_succ]
            refine wpAnyH_ready (rs := [11]) (by kernel_rfl) (by simp) (AllReadyH.cons rfl (fun K hK => ?_) AllReadyH.nil)
            go_simp
            (with_reducible refine (HRD.out _ (HR5.out.below hHeld)).mono ?_)
            rintro e V1 ⟨ud, rfl, hod, hz⟩
            unfold bv
            obtain ⟨ad, cd, rfl⟩ : ∃ a c, ud = .slice a (done l ky).length c := hod.row.slice
            have hh := below_trans hHeld hz
            clear hz
            go_simp
            refine hK.out _ _ hh (fun hHeld => ?_)
            clear hK hh
            try simp only [Act.put, List.setIfInBounds_toArray, List.set_cons_zero, List.set_cons_succ]
            refine wpAnyH_ready (rs := [12]) (by kernel_rfl) (by simp) (AllReadyH.cons rfl (fun K hK => ?_) AllReadyH.nil)
            go_simp
            (with_reducible refine (HLK.out t _ _ (done l ky) _ (HR14.out.below hHeld) hod.row).mono ?_)
            rintro e V2 ⟨rfl, hz⟩
            have hh := below_trans hHeld hz
            clear hz
            go_simp
            refine hK.out _ _ hh (fun hHeld => ?_)
            clear hK hh
            try simp only [Act.put, List.setIfInBounds_toArray, List.set_cons_zero, List.set_cons_succ]
            refine takeH 13 223 (.bool true) calm_np rfl rfl (by kernel_rfl) (by kernel_rfl) (by kernel_rfl) (by rfl) (fun W' hSw => by go_simp) hHeld ?_
            try simp only [Act.put, List.setIfInBounds_toArray, List.set_cons_zero, List.set_cons_succ]
            refine takeH 14 10 (.bool true) calm_np rfl rfl (by kernel_rfl) (by kernel_rfl) (by kernel_rfl) (by rfl) (fun W' hSw => by go_simp) hHeld ?_
            try simp only [Act.put, List.setIfInBounds_toArray, List.set_cons_zero, List.set_cons_succ]
            refine wpAnyH_done (by kernel_rfl) ?_ _
            refine NoPanic.normal ?_
            have HH := Lib.hid hHeld
            clear hHeld
            rename World => v16
            have hz := HH.out
            replace HX5 : Hid (Box (w.heap.size) [.int .i64 t, .slice a l.length cap] v16) := Lib.hid (HX5.out.below hz)
            replace HX11 : Hid (Box (g2) [.int .i64 T, .slice a2 P.length c2] v16) := Lib.hid (HX11.out.below hz)
            replace HX14 : Hid (Box (g3) [.int .i64 t, .slice a3 (done l ky).length c3] v16) := Lib.hid (HX14.out.below hz)
            replace HX15 : Hid (Box (g3 + 1) [.int .i64 xg.y, .int .i64 xg.k, .int .i64 xg.o, .int .i64 xg.d] v16) := Lib.hid (HX15.out.below hz)
            replace HX17 : Hid (Box (g4) [.int .i64 xf.y, .int .i64 xf.k, .int .i64 xf.o, .int .i64 xf.d] v16) := Lib.hid (HX17.out.below hz)
            replace HX19 : Hid (Box (g5) [.int .i64 t, .slice a5 (tell l nw).length c5] v16) := Lib.hid (HX19.out.below hz)
            replace HX22 : Hid (Box (g6) [.int .i64 0, .slice none 0 0] v16) := Lib.hid (HX22.out.below hz)
            replace HX23 : Hid (Box (g7) [.int .i64 T, .slice a7 P.length c7, .int .i64 T, .int .i64 z] v16) := Lib.hid (HX23.out.below hz)
            replace HX24 : Hid (Box (g11) [.int .i64 xf.y, .int .i64 xf.k, .int .i64 xf.o, .int .i64 xf.d] v16) := Lib.hid (HX24.out.below hz)
            replace HX25 : Hid (Box (g14) [.int .i64 xg.y, .int .i64 xg.k, .int .i64 xg.o, .int .i64 xg.d] v16) := Lib.hid (HX25.out.below hz)
            replace HR5 : Hid (URow v16 (.slice a l.length cap) (l)) := Lib.hid (HR5.out.below hz)
            replace HR11 : Hid (URow v16 (.slice a2 P.length c2) (P)) := Lib.hid (HR11.out.below hz)
            replace HR14 : Hid (URow v16 (.slice a3 (done l ky).length c3) (done l ky)) := Lib.hid (HR14.out.below hz)
            replace HR19 : Hid (URow v16 (.slice a5 (tell l nw).length c5) (tell l nw)) := Lib.hid (HR19.out.below hz)
            replace HR20 : Hid (URow v16 (.slice a6 (told l nw).length c6) (told l nw)) := Lib.hid (HR20.out.below hz)
            replace HR23 : Hid (URow v16 (.slice a7 P.length c7) (P)) := Lib.hid (HR23.out.below hz)
            replace HB : Hid (Below w.heap.size w v16) := Lib.hid (below_trans HB.out hz)
            clear hz HH
            go_wp2_with fail
            go_ret
            exact ⟨rfl, HB.out⟩

set_option maxRecDepth 100000 in
set_option maxHeartbeats 4000000 in
theorem lifted (os : Os) (started : os.Started) (H : Type) (enc : TypeId × Value → H) :
    ReturnsInHanded {} Try.checked os 3 .any (Rows.outboxGoesSpec.pre6 enc Try.prog Try.f3 Rows.outboxGoesRow.domain false) (Rows.outboxGoesSpec.post enc Try.prog Try.f3 false true false false) := by
  refine returnsInHanded_of_change (C := Try.checked) own started (by kernel_rfl) Try.func3
    (ChangeSpec.witness6 (enc := enc) (C := Try.checked) false ⟨#[], #[.agg #[.int .i64 0, .slice none 0 0], .int .i64 0, .int .i64 0, .int .i64 0, .int .i64 0], []⟩ 8 (by kernel_rfl) (by kernel_rfl) (by kernel_rfl) (by kernel_rfl)) ?_
  intro W base args ds gs before hval0 hW hcnd _
  have hval : ∀ (j : Nat) t v, Try.f3.params[j]? = some t → args[j]? = some v → Value.okWide Try.prog W .any base t v := hval0
  have hW' := hW
  obtain ⟨p, q, hA0, hV, rfl, hfz, hnd⟩ := hW
  have hA : DataW.TrodAll enc Try.prog W 0 (fun _ => true) true Try.f3.params.toList args.toList ds p := hA0
  rw [Try.params3] at hA hval
  obtain ⟨v0, vs0, d0, ds0, p0, q0, hargs, rfl, rfl, h0, r0⟩ := trodAll_cons hA
  obtain ⟨v1, vs1, d1, ds1, p1, q1, rfl, rfl, rfl, h1, r1⟩ := trodAll_cons r0
  obtain ⟨v2, vs2, d2, ds2, p2, q2, rfl, rfl, rfl, h2, r2⟩ := trodAll_cons r1
  obtain ⟨v3, vs3, d3, ds3, p3, q3, rfl, rfl, rfl, h3, r3⟩ := trodAll_cons r2
  obtain ⟨v4, vs4, d4, ds4, p4, q4, rfl, rfl, rfl, h4, r4⟩ := trodAll_cons r3
  obtain ⟨rfl, rfl, rfl⟩ := trodAll_nil r4
  obtain rfl : args = #[v0, v1, v2, v3, v4] := by cases args; simp_all
  obtain ⟨rfl, rfl⟩ := trodVars_none hV
  have k0 := h0
  have lt0 : ∀ x ∈ p0, x.block < W.heap.size := by obtain ⟨m, hm⟩ := k0; exact DataW.trod_lt m _ _ _ hm
  obtain ⟨fuel0, hf0⟩ := h0
  obtain ⟨t0, va0, rfl, w0⟩ := open_outbox (hval 0 24 v0 rfl rfl) hf0
  obtain ⟨a1, rfl, rfl, rfl, w1⟩ := open_int Try.underlying3 (hval 1 3 v1 rfl rfl) h1
  have hb1 : -9223372036854775808 ≤ a1 ∧ a1 ≤ 9223372036854775807 := by
    have := w1
    simp [Lit.wf, IntKind.min, IntKind.max, IntKind.bits, IntKind.signed] at this
    omega
  obtain ⟨a2, rfl, rfl, rfl, w2⟩ := open_int Try.underlying3 (hval 2 3 v2 rfl rfl) h2
  have hb2 : -9223372036854775808 ≤ a2 ∧ a2 ≤ 9223372036854775807 := by
    have := w2
    simp [Lit.wf, IntKind.min, IntKind.max, IntKind.bits, IntKind.signed] at this
    omega
  obtain ⟨a3, rfl, rfl, rfl, w3⟩ := open_int Try.underlying3 (hval 3 3 v3 rfl rfl) h3
  have hb3 : -9223372036854775808 ≤ a3 ∧ a3 ≤ 9223372036854775807 := by
    have := w3
    simp [Lit.wf, IntKind.min, IntKind.max, IntKind.bits, IntKind.signed] at this
    omega
  obtain ⟨a4, rfl, rfl, rfl, w4⟩ := open_int Try.underlying3 (hval 4 3 v4 rfl rfl) h4
  have hb4 : -9223372036854775808 ≤ a4 ∧ a4 ≤ 9223372036854775807 := by
    have := w4
    simp [Lit.wf, IntKind.min, IntKind.max, IntKind.bits, IntKind.signed] at this
    omega
  clear hA0 hval0
  refine (walk0 t0 va0 a1 hb1.1 hb1.2 a2 hb2.1 hb2.2 a3 hb3.1 hb3.2 a4 hb4.1 hb4.2 W w0).mono fun e W' ⟨he, bel⟩ => ?_
  subst he
  exact ⟨_, rfl, _, _, _, [], _, [], hW', trodAll_mk1 (shut_bool Try.underlying4 _), (trodAll_cons_mk (Below.trod laidOut (by kernel_rfl) (of_decide_eq_true (by kernel_rfl)) k0 bel lt0) (trodAll_cons_mk (shut_int Try.underlying3 w1) (trodAll_cons_mk (shut_int Try.underlying3 w2) (trodAll_cons_mk (shut_int Try.underlying3 w3) (trodAll_cons_mk (shut_int Try.underlying3 w4) trodAll_mk0))))), rfl, bel.frame _, fun h => by cases h⟩

theorem over : Rows.outboxGoesRow.holds Try.pinned (OpenSpec.ofChange Rows.outboxGoesSpec) :=
  OpenClaim.holds_of_wide 3 Try.f3 rfl rfl rfl rfl rfl rfl rfl ⟨rfl, rfl, rfl, rfl, rfl⟩ rfl rfl rfl rfl rfl (by kernel_rfl) Try.func3 (by kernel_rfl)
    (of_decide_eq_true (by kernel_rfl)) (by unfold Func.isWrapper; first | (rw [if_pos (by decide +kernel)]; kernel_rfl) | (rw [if_neg (by decide +kernel)]; exact ⟨rfl, rfl⟩))
    (fun os started H enc _ => lifted os started H enc)

theorem proved : Rows.OutboxGoesSaid := over
#print axioms proved
end Go.Proofs.Ytlhepocjcdbhjaa.outboxGoes
