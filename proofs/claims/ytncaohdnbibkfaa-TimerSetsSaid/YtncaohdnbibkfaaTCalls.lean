/-
  Contracts of package timer: Set, Clear, Due, Next.
-/
import Derived.Test.YtncaohdnbibkfaaTCat
namespace Go.Proofs.Ytncaohdnbibkfaa.Timer
open Go.ChangeShapes Go.WideShapes Go.ChangeAt Go.RowKit Go.Shelf Go.Lib
open Go.Proofs.Ytncaohdnbibkfaa.Queue

/-- Those that stand below it are those ahead of its place. -/
theorem part_ins {x : Wt} {c : List Wt} (hu : Up c) (hne : ∀ y ∈ c, y ≠ x) : c.filter (fun y => ltB y x) ++ ([x] ++ c.filter (fun y => !ltB y x)) = insT x c := by
  obtain ⟨h1, h2⟩ := posT_ways hu hne
  have e1 : (c.take (posT x c)).filter (fun y => ltB y x) = c.take (posT x c) := List.filter_eq_self.2 fun y hy => by
    obtain ⟨i, hi, rfl⟩ := List.mem_take_iff_getElem.1 hy
    exact h1 i (by omega) (by omega)
  have e2 : (c.drop (posT x c)).filter (fun y => ltB y x) = [] := List.filter_eq_nil_iff.2 fun y hy => by
    obtain ⟨i, hi, rfl⟩ := List.mem_drop_iff_getElem.1 hy
    rw [ltB_asym (h2 (posT x c + i) (by omega) (by omega))]
    simp
  have e3 : (c.take (posT x c)).filter (fun y => !ltB y x) = [] := List.filter_eq_nil_iff.2 fun y hy => by
    obtain ⟨i, hi, rfl⟩ := List.mem_take_iff_getElem.1 hy
    rw [h1 i (by omega) (by omega)]
    simp
  have e4 : (c.drop (posT x c)).filter (fun y => !ltB y x) = c.drop (posT x c) := List.filter_eq_self.2 fun y hy => by
    obtain ⟨i, hi, rfl⟩ := List.mem_drop_iff_getElem.1 hy
    rw [ltB_asym (h2 (posT x c + i) (by omega) (by omega))]
    rfl
  rw [insT_pos]
  have key : ∀ p : Wt → Bool, c.filter p = (c.take (posT x c)).filter p ++ (c.drop (posT x c)).filter p := fun p => by
    rw [← List.filter_append, List.take_append_drop]
  rw [key (fun y => ltB y x), key (fun y => !ltB y x), e1, e2, e3, e4]
  simp
/-- Timers and an error are returned. -/
def TimersE (l : List Wt) (z : Int) (w : World) (e : Ending) (w' : World) : Prop := ∃ v, e = .returned (.tuple #[v, .int .i64 z]) ∧ QRow w' v l ∧ Below w.heap.size w w'
/-- Timers twice, and an error, are returned. -/
def DueE (a b : List Wt) (z : Int) (w : World) (e : Ending) (w' : World) : Prop := ∃ u v, e = .returned (.tuple #[u, v, .int .i64 z]) ∧ QRow w' u a ∧ QRow w' v b ∧ Below w.heap.size w w'
/-- Two numbers are returned. -/
def NumE (n z : Int) (w : World) (e : Ending) (w' : World) : Prop := e = .returned (.tuple #[.int .i64 n, .int .i64 z]) ∧ Below w.heap.size w w'
def dueO (t : Int) (l : List Wt) : List Wt := if rightB l = true then dueL t l else []
def restO (t : Int) (l : List Wt) : List Wt := if rightB l = true then restL t l else []
def nextN (l : List Wt) : Int := if rightB l = true then (match l with | [] => 0 | x :: _ => x.c) else 0
def nextE (l : List Wt) : Int := if rightB l = true then (match l with | [] => 8 | _ :: _ => 0) else 1

set_option maxRecDepth 100000 in
set_option maxHeartbeats 1000000 in
theorem Next_any {v : Value} {l : List Wt} {w : World} (h : QRow w v l) (hl : l.length ≤ 1000) : Calls Try.prog 10 #[v] w (NumE (nextN l) (nextE l) w) := by
  have hm := Right_any h hl
  have H := Lib.hid h
  obtain ⟨a, cap, rfl⟩ := h.slice
  unfold nextN nextE
  clear h
  cases ha : rightB l with
  | false =>
    rw [ha] at hm
    have HM := Lib.hid hm
    clear hm ha
    go_enter Try.func10, Try.ntmps10
    go_wp2_with fail
    (with_reducible refine HM.out.mono ?_)
    rintro e w' ⟨rfl, hz⟩
    have HZ := Lib.hid hz
    clear hz
    go_wp2_with fail
    go_ret2
    exact ⟨rfl, HZ.out⟩
  | true =>
    rw [ha] at hm
    have HM := Lib.hid hm
    rw [if_pos rfl, if_pos rfl]
    clear hm ha
    cases l with
    | nil =>
      simp only [List.length_nil] at *
      go_enter Try.func10, Try.ntmps10
      go_wp2_with fail
      (with_reducible refine HM.out.mono ?_)
      rintro e w' ⟨rfl, hz⟩
      have HZ := Lib.hid hz
      clear hz
      go_wp2_with fail
      go_ret2
      exact ⟨rfl, HZ.out⟩
    | cons x r =>
      obtain ⟨b, off, rfl, hlc, hcap, hb, k0, k1, k2⟩ := QRow.at H.out (q := 0) (by simp)
      simp only [Nat.zero_mul, Nat.add_zero, List.getElem_cons_zero] at k0 k1 k2
      have hn : (0 : Int) < (x :: r).length := by simp
      have hn2 : (((x :: r).length : Int) == 0) = false := by simpa using (by omega : ¬ ((x :: r).length : Int) = 0)
      have HSF : Hid (∀ W, Below w.heap.size w W → W.cell? ⟨b, off, none⟩ = some (.int .i64 x.c) ∧ b < W.heap.size) := Lib.hid (fun W hW => ⟨(hW.cell (p := ⟨b, _, none⟩) hb).trans k0, by have := hW.size; omega⟩)
      generalize (x :: r).length = n at *
      clear hlc hcap hb k0 k1 k2
      go_enter Try.func10, Try.ntmps10
      go_wp2_with fail
      (with_reducible refine HM.out.mono ?_)
      rintro e w' ⟨rfl, hz⟩
      have HZ := Lib.hid hz
      obtain ⟨q0, q1⟩ := HSF.out _ hz
      clear hz
      go_wp2_with fail
      go_ret2
      exact ⟨rfl, HZ.out⟩

set_option maxRecDepth 100000 in
set_option maxHeartbeats 1000000 in
theorem Due_any {v : Value} {l : List Wt} {w : World} (h : QRow w v l) (hl : l.length ≤ 1000) (t : Int) : Calls Try.prog 9 #[v, .int .i64 t] w (DueE (dueO t l) (restO t l) (clearE l) w) := by
  have hb := al w (.cells #[.int .i64 t] 3)
  have hbx := Box.made w [.int .i64 t] 3
  have hm := Right_any (h.below hb) hl
  have H := Lib.hid (h.below hb)
  have HB := Lib.hid hb
  have HX : Hid (Box w.heap.size [.int .i64 t] (w.alloc (.cells #[.int .i64 t] 3))) := Lib.hid hbx
  obtain ⟨a, cap, rfl⟩ := h.slice
  have hmf := makes
  unfold dueO restO clearE
  clear h hb hbx
  cases ha : rightB l with
  | false =>
    rw [ha] at hm
    have HM := Lib.hid hm
    clear hm ha
    go_enter Try.func9, Try.ntmps9
    go_wp2_with fail
    (with_reducible refine HM.out.mono ?_)
    rintro e w' ⟨rfl, hz⟩
    have HZ := Lib.hid (below_trans HB.out hz)
    clear hz
    go_wp2_with fail
    go_ret3
    exact ⟨_, _, rfl, nil_row _, nil_row _, HZ.out⟩
  | true =>
    rw [ha] at hm
    have HM := Lib.hid hm
    rw [if_pos rfl, if_pos rfl, if_pos rfl]
    clear hm ha
    go_enter Try.func9, Try.ntmps9
    go_wp2_with fail
    (with_reducible refine HM.out.mono ?_)
    rintro e w' ⟨rfl, hz⟩
    have HZ := Lib.hid (below_trans HB.out hz)
    have HX1 := Lib.hid (HX.out.below hz)
    have hp := parted_any 25 (enters_of Try.func25 (by kernel_rfl) rfl) #[.pointer (some ⟨w.heap.size, 0, none⟩)] (fun y => decide (y.c ≤ t)) (fun y _ W hW => due1_any t y (HX1.out.below hW)) (H.out.below hz) hl
    have HP := Lib.hid hp
    clear hz hp
    go_wp2_with fail
    (with_reducible refine HP.out.mono ?_)
    rintro e w2 ⟨u1, v1, rfl, hu, hv, hz⟩
    have HZ2 := Lib.hid (below_trans HZ.out hz)
    obtain ⟨a1, c1, rfl⟩ := hu.row.slice
    obtain ⟨a2, c2, rfl⟩ := hv.row.slice
    have HU := Lib.hid hu.row
    have HV := Lib.hid hv.row
    clear hu hv hz
    go_wp2_with fail
    go_ret3
    exact ⟨_, _, rfl, HU.out, HV.out, HZ2.out⟩

set_option maxRecDepth 100000 in
set_option maxHeartbeats 1000000 in
theorem Clear_any {v : Value} {l : List Wt} {w : World} (h : QRow w v l) (hl : l.length ≤ 1000) (k o : Int) : Calls Try.prog 8 #[v, .int .i64 k, .int .i64 o] w (TimersE (clearO k o l) (clearE l) w) := by
  have hm := Right_any h hl
  have H := Lib.hid h
  obtain ⟨a, cap, rfl⟩ := h.slice
  unfold clearO clearE
  clear h
  cases ha : rightB l with
  | false =>
    rw [ha] at hm
    have HM := Lib.hid hm
    clear hm ha
    go_enter Try.func8, Try.ntmps8
    go_wp2_with fail
    (with_reducible refine HM.out.mono ?_)
    rintro e w' ⟨rfl, hz⟩
    have HZ := Lib.hid hz
    clear hz
    go_wp2_with fail
    go_ret2
    exact ⟨_, rfl, nil_row _, HZ.out⟩
  | true =>
    rw [ha] at hm
    have HM := Lib.hid hm
    rw [if_pos rfl, if_pos rfl]
    clear hm ha
    have HI := Lib.hid (fun W => isOf_any k o W)
    go_enter Try.func8, Try.ntmps8
    go_wp2_with fail
    (with_reducible refine HM.out.mono ?_)
    rintro e w' ⟨rfl, hz⟩
    have HZ := Lib.hid hz
    clear hz
    go_wp2_with fail
    (with_reducible refine (HI.out _).mono ?_)
    rintro e w1 ⟨g, g', rfl, hg, hg', hz⟩
    have hp := parted_any 28 (enters_of Try.func28 (by kernel_rfl) rfl) #[.pointer (some ⟨g, 0, none⟩), .pointer (some ⟨g', 0, none⟩)] (keyB k o) (fun y _ W hW => isOf1_any k o y (hg.below hW) (hg'.below hW)) (H.out.below (below_trans HZ.out hz)) hl
    have HP := Lib.hid hp
    have HZ1 := Lib.hid (below_trans HZ.out hz)
    clear hz hp hg hg'
    go_wp2_with fail
    (with_reducible refine HP.out.mono ?_)
    rintro e w2 ⟨u1, v1, rfl, hu, hv, hz⟩
    have HZ2 := Lib.hid (below_trans HZ1.out hz)
    obtain ⟨a1, c1, rfl⟩ := hu.row.slice
    obtain ⟨a2, c2, rfl⟩ := hv.row.slice
    have HV := Lib.hid hv.row
    clear hu hv hz
    go_wp2_with fail
    go_ret2
    exact ⟨_, rfl, HV.out, HZ2.out⟩

set_option maxRecDepth 100000 in
set_option maxHeartbeats 2000000 in
theorem Set_any {v : Value} {l : List Wt} {w : World} (h : QRow w v l) (hl : l.length ≤ 1000) (x : Wt) : Calls Try.prog 7 #[v, wv x] w (TimersE (setO x l) (setE x l) w) := by
  have hb := al w (.cells #[.int .i64 x.c, .int .i64 x.s, .int .i64 x.o] 24)
  have hbx := Box.made w (tcs x) 24
  have hm := Right_any (h.below hb) hl
  have H := Lib.hid (h.below hb)
  have HB := Lib.hid hb
  have HX : Hid (Box w.heap.size (tcs x) (w.alloc (.cells #[.int .i64 x.c, .int .i64 x.s, .int .i64 x.o] 24))) := Lib.hid hbx
  have HMB := Lib.hid (fun W => mayBe_any x W)
  have HI := Lib.hid (fun W => isOf_any x.s x.o W)
  have HF := Lib.hid (fun W (hb : Below (w.alloc (.cells #[.int .i64 x.c, .int .i64 x.s, .int .i64 x.o] 24)).heap.size (w.alloc (.cells #[.int .i64 x.c, .int .i64 x.s, .int .i64 x.o] 24)) W) => And.intro (c3' (HX.out.below hb)) (HX.out.below hb).1)
  obtain ⟨a, cap, rfl⟩ := h.slice
  have hmf := makes
  have hW := set_ways x l
  clear h hb hbx
  unfold wv at HMB ⊢
  obtain ⟨W1, hW1⟩ : ∃ W, w.alloc (.cells #[.int .i64 x.c, .int .i64 x.s, .int .i64 x.o] 24) = W := ⟨_, rfl⟩
  rw [hW1] at H HB HX hm HF
  rcases hW with ⟨hr, e1, e2⟩ | ⟨hr, hx, e1, e2⟩ | ⟨hr, hx, hlen, e1, e2⟩ | ⟨hr, hx, hlen, e1, e2⟩
  · rw [hr] at hm
    rw [e1, e2]
    have HM := Lib.hid hm
    clear hm hr e1 e2 HMB
    go_enter Try.func7, Try.ntmps7
    go_upto_region 1 with (fail)
    clear hW1
    go_wp2_with fail
    (with_reducible refine HM.out.mono ?_)
    rintro e w' ⟨rfl, hz⟩
    have HZ := Lib.hid (below_trans HB.out hz)
    clear hz
    go_wp2_with fail
    go_ret2
    exact ⟨_, rfl, nil_row _, HZ.out⟩
  · rw [hr] at hm
    rw [hx] at HMB
    rw [e1, e2]
    have HM := Lib.hid hm
    clear hm hr hx e1 e2
    go_enter Try.func7, Try.ntmps7
    go_upto_region 1 with (fail)
    clear hW1
    go_wp2_with fail
    (with_reducible refine HM.out.mono ?_)
    rintro e w' ⟨rfl, hz⟩
    have HZ := Lib.hid (below_trans HB.out hz)
    obtain ⟨⟨d0, d1, d2⟩, d3⟩ := HF.out _ hz
    clear hz
    go_wp2_with fail
    (with_reducible refine (HMB.out _).mono ?_)
    rintro e w2 ⟨rfl, hz⟩
    have HZ2 := Lib.hid (below_trans HZ.out hz)
    clear hz d0 d1 d2 d3
    go_wp2_with fail
    go_ret2
    exact ⟨_, rfl, nil_row _, HZ2.out⟩
  all_goals (
    rw [hr] at hm
    rw [hx] at HMB
    rw [e1, e2]
    have HM := Lib.hid hm
    have HR := Lib.hid (rightB_t.1 hr)
    clear hm hr hx e1 e2)
  · go_enter Try.func7, Try.ntmps7
    go_upto_region 1 with (fail)
    clear hW1
    go_wp2_with fail
    (with_reducible refine HM.out.mono ?_)
    rintro e w' ⟨rfl, hz⟩
    have HZ := Lib.hid hz
    obtain ⟨⟨d0, d1, d2⟩, d3⟩ := HF.out _ hz
    clear hz
    go_wp2_with fail
    (with_reducible refine (HMB.out _).mono ?_)
    rintro e w2 ⟨rfl, hz⟩
    have HZ2 := Lib.hid (below_trans HZ.out hz)
    clear hz d0 d1 d2 d3
    obtain ⟨⟨d0, d1, d2⟩, d3⟩ := HF.out _ HZ2.out
    go_wp2_with fail
    (with_reducible refine (HI.out _).mono ?_)
    rintro e w3 ⟨g, g', rfl, hg, hg', hz⟩
    have HP := Lib.hid (parted_any 28 (enters_of Try.func28 (by kernel_rfl) rfl) #[.pointer (some ⟨g, 0, none⟩), .pointer (some ⟨g', 0, none⟩)] (keyB x.s x.o) (fun y _ W hW => isOf1_any x.s x.o y (hg.below hW) (hg'.below hW)) (H.out.below (below_trans HZ2.out hz)) hl)
    have HZ3 := Lib.hid (below_trans HZ2.out hz)
    clear hz hg hg' d0 d1 d2 d3
    go_wp2_with fail
    (with_reducible refine HP.out.mono ?_)
    rintro e w4 ⟨u1, v1, rfl, hu, hv, hz⟩
    have HZ4 := Lib.hid (below_trans (below_trans HB.out HZ3.out) hz)
    obtain ⟨a1, c1, rfl⟩ := hu.row.slice
    obtain ⟨a2, c2, rfl⟩ := hv.row.slice
    have e96 : (List.filter (fun y => !keyB x.s x.o y) l).length = 96 := hlen
    clear hu hv hz HP
    rw [e96]
    go_wp2_with fail
    go_ret2
    exact ⟨_, rfl, nil_row _, HZ4.out⟩
  · go_enter Try.func7, Try.ntmps7
    go_upto_region 1 with (fail)
    clear hW1
    go_wp2_with fail
    (with_reducible refine HM.out.mono ?_)
    rintro e w' ⟨rfl, hz⟩
    have HZ := Lib.hid hz
    obtain ⟨⟨d0, d1, d2⟩, d3⟩ := HF.out _ hz
    clear hz
    go_wp2_with fail
    (with_reducible refine (HMB.out _).mono ?_)
    rintro e w2 ⟨rfl, hz⟩
    have HZ2 := Lib.hid (below_trans HZ.out hz)
    clear hz d0 d1 d2 d3
    obtain ⟨⟨d0, d1, d2⟩, d3⟩ := HF.out _ HZ2.out
    go_wp2_with fail
    (with_reducible refine (HI.out _).mono ?_)
    rintro e w3 ⟨g, g', rfl, hg, hg', hz⟩
    have HP := Lib.hid (parted_any 28 (enters_of Try.func28 (by kernel_rfl) rfl) #[.pointer (some ⟨g, 0, none⟩), .pointer (some ⟨g', 0, none⟩)] (keyB x.s x.o) (fun y _ W hW => isOf1_any x.s x.o y (hg.below hW) (hg'.below hW)) (H.out.below (below_trans HZ2.out hz)) hl)
    have HZ3 := Lib.hid (below_trans HZ2.out hz)
    clear hz hg hg' d0 d1 d2 d3
    go_wp2_with fail
    (with_reducible refine HP.out.mono ?_)
    rintro e w4 ⟨u1, v1, rfl, hu, hv, hz⟩
    have HZ4 := Lib.hid (below_trans HZ3.out hz)
    have hq : QRow w4 v1 (clearL x.s x.o l) := hv.row
    have HSL : Hid (setL x l = (clearL x.s x.o l).filter (fun y => ltB y x) ++ ([x] ++ (clearL x.s x.o l).filter (fun y => !ltB y x))) := Lib.hid (part_ins (clear_right HR.out x.s x.o).2.2.1 (fun y hy => (clear_diff ⟨rfl, rfl⟩ y hy).ne)).symm
    obtain ⟨a1, n1, c1, rfl⟩ : ∃ a n c, u1 = .slice a n c := (by obtain ⟨a', c', e⟩ := hu.row.slice; exact ⟨a', _, c', e⟩)
    clear hu hv hz HP
    generalize clearL x.s x.o l = m at *
    obtain ⟨a2, c2, rfl⟩ := hq.slice
    have hne : ((m.length : Int) == 96) = false := by simpa using (by omega : ¬ (m.length : Int) = 96)
    have hX4 := HX.out.below HZ4.out
    have HP2 := Lib.hid (parted_any 22 (enters_of Try.func22 (by kernel_rfl) rfl) #[.pointer (some ⟨w.heap.size, 0, none⟩)] (fun y => ltB y x) (fun y _ W hW => set1_any x y (hX4.below hW)) hq (by omega))
    have hl1 := List.length_filter_le (fun y => ltB y x) m
    have hl2 := List.length_filter_le (fun y => !ltB y x) m
    have HL1 : Hid ((m.filter (fun y => ltB y x)).length ≤ 1000) := Lib.hid (by omega)
    have HL2 : Hid ((m.filter (fun y => !ltB y x)).length ≤ 1000) := Lib.hid (by omega)
    generalize m.filter (fun y => ltB y x) = p1 at *
    generalize m.filter (fun y => !ltB y x) = p2 at *
    clear hl1 hl2 hX4 hq hlen
    go_wp2_with fail
    (with_reducible refine HP2.out.mono ?_)
    rintro e w5 ⟨u2, v2, rfl, hu, hv, hz⟩
    have HZ5 := Lib.hid (below_trans HZ4.out hz)
    have HU := Lib.hid hu.row
    have HV := Lib.hid hv.row
    obtain ⟨a3, n3, c3, rfl⟩ : ∃ a n c, u2 = .slice a n c := (by obtain ⟨a', c', e⟩ := hu.row.slice; exact ⟨a', _, c', e⟩)
    obtain ⟨a4, n4, c4, rfl⟩ : ∃ a n c, v2 = .slice a n c := (by obtain ⟨a', c', e⟩ := hv.row.slice; exact ⟨a', _, c', e⟩)
    obtain ⟨⟨d0, d1, d2⟩, d3⟩ := HF.out _ HZ5.out
    have hb1 := al w5 (.cells #[.int .i64 x.c, .int .i64 x.s, .int .i64 x.o] 24)
    have hone := row_M w5 x
    have hb2 := al (w5.alloc (.cells #[.int .i64 x.c, .int .i64 x.s, .int .i64 x.o] 24)) (.cells #[.slice a3 n3 c3, .slice (some ⟨w5.heap.size, 0, none⟩) 1 1, .slice a4 n4 c4] 22)
    have hbox := Box.made (w5.alloc (.cells #[.int .i64 x.c, .int .i64 x.s, .int .i64 x.o] 24)) [.slice a3 n3 c3, .slice (some ⟨w5.heap.size, 0, none⟩) 1 1, .slice a4 n4 c4] 22
    simp only [World.size_alloc] at hbox
    have HCC := Lib.hid (ConcatM_three (cap := 3) hbox (by omega) ((HU.out.below hb1).below hb2) (hone.below hb2) ((HV.out.below hb1).below hb2) HL1.out (by simp) HL2.out)
    have HZ6 := Lib.hid (below_trans (below_trans HB.out HZ5.out) (below_trans hb1 hb2))
    clear hu hv hz hb1 hb2 hone hbox
    go_wp2_with fail
    (with_reducible refine HCC.out.mono ?_)
    rintro e w6 ⟨v6, rfl, ho, hz⟩
    have HZ7 := Lib.hid (below_trans HZ6.out hz)
    obtain ⟨a6, n6, c6, rfl⟩ : ∃ a n c, v6 = .slice a n c := (by obtain ⟨a', c', e⟩ := ho.row.slice; exact ⟨a', _, c', e⟩)
    have HO := Lib.hid ho.row
    clear ho hz d0 d1 d2 d3
    go_wp2_with fail
    go_ret2
    exact ⟨_, rfl, by rw [HSL.out]; exact HO.out, HZ7.out⟩
end Go.Proofs.Ytncaohdnbibkfaa.Timer
