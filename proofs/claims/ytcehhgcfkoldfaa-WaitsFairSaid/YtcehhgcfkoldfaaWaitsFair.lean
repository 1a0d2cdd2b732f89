/-
  Proved: for any lines, order and class the law WaitsFair returns true: of those that wait for something each goes ahead of those behind it; moved to a class, one goes ahead of just those of it that came later, and of those of later classes. No condition.
-/
import Derived.Test.YtcehhgcfkoldfaaRows
import Derived.Test.YtcehhgcfkoldfaaWArg
import Derived.Test.YtcehhgcfkoldfaaWHold
import Derived.Test.YtcehhgcfkoldfaaWAlive
import Derived.Test.YtcehhgcfkoldfaaWMove
namespace Go.Proofs.Ytcehhgcfkoldfaa.waitsFair
open Go.ChangeShapes Go.WideShapes Go.ChangeAt Go.RowKit Go.Lib Go.Proofs.Ytcehhgcfkoldfaa.Goods Go.Proofs.Ytcehhgcfkoldfaa.Waits
open Go.Proofs.Ytcehhgcfkoldfaa.Queue (Wt ltB wv QRow)
open Go.ChangeMaps (open_string shut_string)
set_option linter.unusedVariables false

theorem own : ownKnob Try.prog.godebug = none := by kernel_rfl
theorem laidOut : laidOutB Try.prog = true := by kernel_rfl

theorem right_brief {l : List Ln} (h : RightP l) : Brief l := ⟨by have := h.1.1; omega, fun x hx => by
  have hm := h.1.2.1 x hx
  unfold mayL at hm
  have hn := (Bool.and_eq_true_iff.1 hm).1
  by_cases h1 : 1 ≤ x.k.size ∧ x.k.size ≤ 16
  · omega
  · rw [nameB_no h1] at hn; cases hn⟩
theorem moveO_no {l : List Ln} {o c : Int} (h : moveE l o c ≠ 0) : moveO l o c = [] := if_neg h
theorem find_is {l : List Ln} {o : Int} {x : Ln} (hr : Waits.rightB l = true) (hg : getO o l = some x) : findE l o = 0 ∧ findV l o = x := by
  rcases find_ways l o with ⟨e1, _⟩ | ⟨_, e2, _⟩ | ⟨y, _, e2, e3, e4⟩
  · rw [hr] at e1; cases e1
  · rw [hg] at e2; cases e2
  · rw [hg] at e2; cases e2; exact ⟨e3, e4⟩
/-- What the law asks of those that wait: it holds. -/
def Fair (ws : List Wt) (o c s : Int) (j : Nat) : Prop := j < ws.length ∧ ws.Pairwise (fun a b => ltB a b = true) ∧ ∀ i (hi : i < ws.length), (i = j → ws[i].o = o) ∧ (i ≠ j → ws[i].o ≠ o ∧ laterB c s ws[i] = decide (j < i))
theorem fair_is {m : List Ln} {x : Ln} {o c : Int} (hr : Waits.rightB m = true) (hg : getO o m = some (inClass x c)) : ∃ j, Fair (ofL m x.k) o c x.w.s j := by
  obtain ⟨h1, h2⟩ := getO_is hg
  obtain ⟨j, hj, he, hf⟩ := of_fair (rightB_t.1 hr) h2
  refine ⟨j, hj, (of_sorted (rightB_t.1 hr) x.k).imp (fun q => q.1), fun i hi => ⟨fun e => ?_, fun hne => ?_⟩⟩
  · subst e
    have h3 : ((ofL m x.k)[i]'hi) = (inClass x c).w := he
    rw [h3]
    exact h1
  · have := hf i hi hne
    rw [h1] at this
    exact this

set_option maxRecDepth 100000 in
set_option maxHeartbeats 8000000 in
theorem walk0 (v : Value) (o : Int) (_o1 : -9223372036854775808 ≤ o) (_o2 : o ≤ 9223372036854775807) (c : Int) (_d1 : -9223372036854775808 ≤ c) (_d2 : c ≤ 9223372036854775807) (w : World) (hv : ArgL w v) :
    Calls Try.prog 6 #[v, .int .i64 o, .int .i64 c] w (BoolB true w) := by
  have HFE := Lib.hid (few_any hv)
  obtain ⟨l0, hr0, hl0⟩ := hv
  obtain ⟨a, cap, rfl⟩ := hr0.slice
  clear hr0 hl0 _o1 _o2 _d1 _d2
  generalize l0.length = n0 at *
  go_enter Try.func6, Try.ntmps6
  go_wp2_with fail
  (with_reducible refine HFE.out.mono ?_)
  rintro e w1 ⟨v1, l, rfl, hti, hown, hz⟩
  obtain ⟨a1, n1, c1, rfl⟩ : ∃ a n c, v1 = .slice a n c := (by obtain ⟨a', c', e⟩ := hown.row.slice; exact ⟨a', _, c', e⟩)
  have HB1 := Lib.hid hz
  have HMV := Lib.hid (Move_any hown.row hti.brief o c)
  have HAL := Lib.hid alive_any
  have HMZ := Lib.hid (fun (h : moveE l o c ≠ 0) => moveO_no h)
  have HMD := Lib.hid (fun (h : moveE l o c = 0) => move_done h)
  clear hti hown hz HFE
  generalize moveO l o c = m at *
  generalize moveE l o c = me at *
  go_wp2_with fail
  (with_reducible refine HMV.out.mono ?_)
  rintro e w2 ⟨v2, rfl, hr2, hz⟩
  obtain ⟨a2, n2, c2, rfl⟩ : ∃ a n c, v2 = .slice a n c := (by obtain ⟨a', c', e⟩ := hr2.slice; exact ⟨a', _, c', e⟩)
  have HB2 := Lib.hid (below_trans HB1.out hz)
  have HR2 := Lib.hid hr2
  clear hz hr2 HMV
  by_cases hme : me = 0
  case neg =>
    obtain rfl := HMZ.out hme
    obtain rfl : n2 = 0 := HR2.out.cap.1
    have hme1 : (me == 0) = false := by simpa using hme
    have hme2 : (me != 0) = true := by simpa using hme
    clear hme HMZ HMD
    go_wp2_with fail
    (with_reducible refine (HAL.out _).mono ?_)
    rintro e w3 ⟨rfl, hz⟩
    have HB3 := Lib.hid (below_trans HB2.out hz)
    clear hz
    go_wp2_with fail
    go_ret
    exact ⟨rfl, HB3.out⟩
  subst hme
  obtain ⟨x, _, _, _, hR, hG, _⟩ := HMD.out rfl
  have hRP := rightB_t.1 hR
  have hbm := right_brief hRP
  obtain ⟨hf1, hf2⟩ := find_is hR hG
  obtain ⟨j, hfair⟩ := fair_is hR hG
  have hfd := Find_any HR2.out hbm o
  rw [hf1, hf2] at hfd
  have hof := fun W (hb : Below w2.heap.size w2 W) => Of_any (HR2.out.below hb) hbm x.k
  have hofo : ofO m x.k = ofL m x.k ∧ ofE m = 0 := by unfold ofO ofE; rw [hR]; exact ⟨rfl, rfl⟩
  simp only [hofo.1, hofo.2] at hof
  generalize ofL m x.k = ws at *
  unfold LineE lv inClass at hfd
  have HFD := Lib.hid hfd
  have HOF := Lib.hid hof
  have HFR := Lib.hid hfair
  clear HMD HMZ hR hG hRP hbm hf1 hf2 hfair hfd hof hofo
  go_wp2_with fail
  (with_reducible refine HFD.out.mono ?_)
  rintro e w3 ⟨rfl, hz⟩
  have hba := al w3 (.cells #[.string x.k, .int .i64 c, .int .i64 x.w.s, .int .i64 x.w.o] 26)
  have hbx := Box.made w3 [.string x.k, .int .i64 c, .int .i64 x.w.s, .int .i64 x.w.o] 26
  obtain ⟨W3, hW3⟩ : ∃ W, w3.alloc (.cells #[.string x.k, .int .i64 c, .int .i64 x.w.s, .int .i64 x.w.o] 26) = W := ⟨_, rfl⟩
  have HC3 : Hid (Below w2.heap.size w2 W3) := Lib.hid (below_trans hz (hW3 ▸ hba))
  have HX3 : Hid (Box w3.heap.size [.string x.k, .int .i64 c, .int .i64 x.w.s, .int .i64 x.w.o] W3) := Lib.hid (hW3 ▸ hbx)
  obtain ⟨gx, hgx⟩ : ∃ n, w3.heap.size = n := ⟨_, rfl⟩
  rw [hgx] at HX3
  obtain ⟨x0, x1, x2, x3⟩ : W3.cell? ⟨gx, 0, none⟩ = some (.string x.k) ∧ W3.cell? ⟨gx, 1, none⟩ = some (.int .i64 c) ∧ W3.cell? ⟨gx, 2, none⟩ = some (.int .i64 x.w.s) ∧ W3.cell? ⟨gx, 3, none⟩ = some (.int .i64 x.w.o) := ⟨(HX3.out.2 0 _ rfl).1, (HX3.out.2 1 _ rfl).1, (HX3.out.2 2 _ rfl).1, (HX3.out.2 3 _ rfl).1⟩
  have hsx := HX3.out.1
  clear hz hba hbx
  go_wp2_with fail
  clear hW3 hgx x0 x1 x2 x3 hsx
  (with_reducible refine (HOF.out _ HC3.out).mono ?_)
  rintro e w4 ⟨v4, rfl, hr4, hz⟩
  obtain ⟨a4, c4, rfl⟩ := hr4.slice
  have HC4 := Lib.hid (below_trans HC3.out hz)
  have HX4 := Lib.hid (HX3.out.below hz)
  have HR4 := Lib.hid hr4
  obtain ⟨x0, x1, x2, x3⟩ : w4.cell? ⟨gx, 0, none⟩ = some (.string x.k) ∧ w4.cell? ⟨gx, 1, none⟩ = some (.int .i64 c) ∧ w4.cell? ⟨gx, 2, none⟩ = some (.int .i64 x.w.s) ∧ w4.cell? ⟨gx, 3, none⟩ = some (.int .i64 x.w.o) := ⟨(HX4.out.2 0 _ rfl).1, (HX4.out.2 1 _ rfl).1, (HX4.out.2 2 _ rfl).1, (HX4.out.2 3 _ rfl).1⟩
  have hsx := HX4.out.1
  clear hz hr4
  go_wp2_with fail
  (with_reducible refine (HAL.out _).mono ?_)
  rintro e w5 ⟨rfl, hz⟩
  have HC5 := Lib.hid (below_trans HC4.out hz)
  have HX5 := Lib.hid (HX4.out.below hz)
  have HR5 := Lib.hid (HR4.out.below hz)
  clear hz x0 x1 x2 x3 hsx HX4 HR4 HC4 HC3 HX3
  go_wp2_with fail
  go_loopw [13, 14, 15, 16, 66] (fun bh _ _ _ i wr => ∃ k : Nat, k ≤ ws.length ∧ i = .int .i64 k ∧ bh = .bool (decide (j < k)) ∧ Below w5.heap.size w5 wr) (fun _ _ _ _ i _ => ws.length - (intOf i).toNat)
  case atStart => exact ⟨0, Nat.zero_le _, rfl, by simp, Below.refl _ _⟩
  case round =>
    obtain ⟨k, hk, rfl, rfl, hr⟩ := hrel
    have HR := Lib.hid hr
    clear hr
    by_cases hlt : k < ws.length
    · obtain ⟨bw, ow, rfl, hcw1, hcw2, hbw, y0, y1, y2⟩ := (HR5.out.below HR.out).at hlt
      obtain ⟨hfe, hfn⟩ := HFR.out.2.2 k hlt
      have HFE1 := Lib.hid hfe
      have HFN1 := Lib.hid hfn
      have HPW := Lib.hid (fun (q : Nat) (e : k = q + 1) => List.pairwise_iff_getElem.1 HFR.out.2.1 q k (by omega) hlt (by omega))
      clear hfe hfn
      have hby := Box.made wr [.int .i64 ws[k].c, .int .i64 ws[k].s, .int .i64 ws[k].o] 24
      have hba := al wr (.cells #[.int .i64 ws[k].c, .int .i64 ws[k].s, .int .i64 ws[k].o] 24)
      have HAT : Hid (∀ q (hq : q < ws.length), ∀ W, Below wr.heap.size wr W → W.cell? ⟨bw, ow + q * 3, none⟩ = some (.int .i64 ws[q].c) ∧ W.cell? ⟨bw, ow + q * 3 + 1, none⟩ = some (.int .i64 ws[q].s) ∧ W.cell? ⟨bw, ow + q * 3 + 2, none⟩ = some (.int .i64 ws[q].o)) := Lib.hid (fun q hq W hb => by
        obtain ⟨b', o', e, _, _, _, t0, t1, t2⟩ := ((HR5.out.below HR.out).below hb).at hq
        cases e
        exact ⟨t0, t1, t2⟩)
      generalize hy : ws[k] = y at *
      obtain ⟨W1, hW1⟩ : ∃ W, wr.alloc (.cells #[.int .i64 y.c, .int .i64 y.s, .int .i64 y.o] 24) = W := ⟨_, rfl⟩
      have HD1 : Hid (Below wr.heap.size wr W1) := Lib.hid (hW1 ▸ hba)
      have HY1 : Hid (Box wr.heap.size [.int .i64 y.c, .int .i64 y.s, .int .i64 y.o] W1) := Lib.hid (hW1 ▸ hby)
      obtain ⟨gy, hgy⟩ : ∃ n, wr.heap.size = n := ⟨_, rfl⟩
      have HSY : Hid (∀ W, Below W1.heap.size W1 W → W.cell? ⟨wr.heap.size, 0, none⟩ = some (.int .i64 y.c) ∧ W.cell? ⟨wr.heap.size, 1, none⟩ = some (.int .i64 y.s) ∧ W.cell? ⟨wr.heap.size, 2, none⟩ = some (.int .i64 y.o)) := Lib.hid (fun W hb => ⟨((HY1.out.below hb).2 0 _ rfl).1, ((HY1.out.below hb).2 1 _ rfl).1, ((HY1.out.below hb).2 2 _ rfl).1⟩)
      have HBY : Hid (∀ W, Below W1.heap.size W1 W → wr.heap.size < W.heap.size) := Lib.hid (fun W hb => (HY1.out.below hb).1)
      have HBP : Hid (∀ W, Below W1.heap.size W1 W → bw < W.heap.size) := Lib.hid (fun W hb => by have := hb.size; have := HD1.out.size; omega)
      have HXR : Hid (∀ W, Below W1.heap.size W1 W → (W.cell? ⟨gx, 0, none⟩ = some (.string x.k) ∧ W.cell? ⟨gx, 1, none⟩ = some (.int .i64 c) ∧ W.cell? ⟨gx, 2, none⟩ = some (.int .i64 x.w.s) ∧ W.cell? ⟨gx, 3, none⟩ = some (.int .i64 x.w.o)) ∧ gx < W.heap.size) := Lib.hid (fun W hb => by
        have hh := ((HX5.out.below HR.out).below HD1.out).below hb
        exact ⟨⟨(hh.2 0 _ rfl).1, (hh.2 1 _ rfl).1, (hh.2 2 _ rfl).1, (hh.2 3 _ rfl).1⟩, hh.1⟩)
      have HAT1 : Hid (∀ q (hq : q < ws.length), ∀ W, Below W1.heap.size W1 W → W.cell? ⟨bw, ow + q * 3, none⟩ = some (.int .i64 ws[q].c) ∧ W.cell? ⟨bw, ow + q * 3 + 1, none⟩ = some (.int .i64 ws[q].s) ∧ W.cell? ⟨bw, ow + q * 3 + 2, none⟩ = some (.int .i64 ws[q].o)) := Lib.hid (fun q hq W hb => HAT.out q hq W (below_trans HD1.out hb))
      clear hby hba HAT hgy gy hy
      go_upto_region 13 with (fail)
      clear hW1 y0 y1 y2
      go_cut [82] from 71 to 82 (fun b wx => b = .bool false ∧ Below W1.heap.size W1 wx)
      case first =>
        rcases Nat.eq_zero_or_pos k with rfl | hpos
        · skip
          refine wp_region_noPanic ?_
          refine wp_region_held_drew (S := fun W' => Below W1.heap.size W1 W') (by kernel_rfl) (dr W1) (fun hHeld => ?_)
          try simp only [Act.put, List.setIfInBounds_toArray, List.set_cons_zero, List.set_cons_succ]
          refine takeH 0 71 (.int .i64 ((0 : Nat) : Int)) calm_np rfl rfl (by kernel_rfl) (by kernel_rfl) (by kernel_rfl) (by rfl) (fun W' hSw => by go_simp) hHeld ?_
          try simp only [Act.put, List.setIfInBounds_toArray, List.set_cons_zero, List.set_cons_succ]
          refine takeH 1 72 (.bool false) calm_np rfl rfl (by kernel_rfl) (by kernel_rfl) (by kernel_rfl) (by rfl) (fun W' hSw => by go_simp) hHeld ?_
          try simp only [Act.put, List.setIfInBounds_toArray, List.set_cons_zero, List.set_cons_succ]
          refine takeH 2 73 (.bool false) calm_np rfl rfl (by kernel_rfl) (by kernel_rfl) (by kernel_rfl) (by rfl) (fun W' hSw => by go_simp) hHeld ?_
          try simp only [Act.put, List.setIfInBounds_toArray, List.set_cons_zero, List.set_cons_succ]
          refine skipH 3 74 calm_np rfl rfl (by kernel_rfl) (by kernel_rfl) (by kernel_rfl) (by rfl) hHeld ?_
          try simp only [Act.put, List.setIfInBounds_toArray, List.set_cons_zero, List.set_cons_succ]
          refine skipH 4 75 calm_np rfl rfl (by kernel_rfl) (by kernel_rfl) (by kernel_rfl) (by rfl) hHeld ?_
          try simp only [Act.put, List.setIfInBounds_toArray, List.set_cons_zero, List.set_cons_succ]
          refine skipH 5 76 calm_np rfl rfl (by kernel_rfl) (by kernel_rfl) (by kernel_rfl) (by rfl) hHeld ?_
          try simp only [Act.put, List.setIfInBounds_toArray, List.set_cons_zero, List.set_cons_succ]
          refine skipH 6 77 calm_np rfl rfl (by kernel_rfl) (by kernel_rfl) (by kernel_rfl) (by rfl) hHeld ?_
          try simp only [Act.put, List.setIfInBounds_toArray, List.set_cons_zero, List.set_cons_succ]
          refine skipH 7 78 calm_np rfl rfl (by kernel_rfl) (by kernel_rfl) (by kernel_rfl) (by rfl) hHeld ?_
          try simp only [Act.put, List.setIfInBounds_toArray, List.set_cons_zero, List.set_cons_succ]
          refine skipH 8 79 calm_np rfl rfl (by kernel_rfl) (by kernel_rfl) (by kernel_rfl) (by rfl) hHeld ?_
          try simp only [Act.put, List.setIfInBounds_toArray, List.set_cons_zero, List.set_cons_succ]
          refine skipH 9 80 calm_np rfl rfl (by kernel_rfl) (by kernel_rfl) (by kernel_rfl) (by rfl) hHeld ?_
          try simp only [Act.put, List.setIfInBounds_toArray, List.set_cons_zero, List.set_cons_succ]
          refine skipH 10 81 calm_np rfl rfl (by kernel_rfl) (by kernel_rfl) (by kernel_rfl) (by rfl) hHeld ?_
          try simp only [Act.put, List.setIfInBounds_toArray, List.set_cons_zero, List.set_cons_succ]
          refine takeH 11 82 (.bool false) calm_np rfl rfl (by kernel_rfl) (by kernel_rfl) (by kernel_rfl) (by rfl) (fun W' hSw => by go_simp) hHeld ?_
          try simp only [Act.put, List.setIfInBounds_toArray, List.set_cons_zero, List.set_cons_succ]
          refine wpAnyH_done (by kernel_rfl) ?_ _
          refine NoPanic.normal ?_
          have HH := Lib.hid hHeld
          clear hHeld
          go_wp2_with fail
          go_meet
          exact ⟨rfl, HH.out⟩
        · obtain ⟨q, rfl⟩ : ∃ q, k = q + 1 := ⟨k - 1, by omega⟩
          have hqn : q < ws.length := by omega
          have hpw := HPW.out q rfl
          have HSP := Lib.hid (HAT1.out q hqn)
          generalize ws[q] = z at *
          have hls := fun W => Queue.Less_any z y W
          rw [hpw] at hls
          unfold wv at hls
          have HLS := Lib.hid hls
          have cc2 : IntKind.i64.wrap (q : Int) = q := IntWalk.i64_in _ (by omega)
          have cc3 : (0 : Int) ≤ q := by omega
          have cc4 : (q : Int) < ws.length := by omega
          have cc5 : ((q + 1 : Nat) : Int) - 1 = q := by omega
          clear hls hpw
          refine wp_region_noPanic ?_
          refine wp_region_held_drew (S := fun W' => Below W1.heap.size W1 W') (by kernel_rfl) (dr W1) (fun hHeld => ?_)
          try simp only [Act.put, List.setIfInBounds_toArray, List.set_cons_zero, List.set_cons_succ]
          refine takeH 0 71 (.int .i64 ((q + 1 : Nat) : Int)) calm_np rfl rfl (by kernel_rfl) (by kernel_rfl) (by kernel_rfl) (by rfl) (fun W' hSw => by go_simp) hHeld ?_
          try simp only [Act.put, List.setIfInBounds_toArray, List.set_cons_zero, List.set_cons_succ]
          refine takeH 1 72 (.bool true) calm_np rfl rfl (by kernel_rfl) (by kernel_rfl) (by kernel_rfl) (by rfl) (fun W' hSw => by go_simp) hHeld ?_
          try simp only [Act.put, List.setIfInBounds_toArray, List.set_cons_zero, List.set_cons_succ]
          refine takeH 2 73 (.bool true) calm_np rfl rfl (by kernel_rfl) (by kernel_rfl) (by kernel_rfl) (by rfl) (fun W' hSw => by go_simp) hHeld ?_
          try simp only [Act.put, List.setIfInBounds_toArray, List.set_cons_zero, List.set_cons_succ]
          refine takeH 3 74 (.slice (some ⟨bw, ow, none⟩) ws.length c4) calm_np rfl rfl (by kernel_rfl) (by kernel_rfl) (by kernel_rfl) (by rfl) (fun W' hSw => by go_simp) hHeld ?_
          try simp only [Act.put, List.setIfInBounds_toArray, List.set_cons_zero, List.set_cons_succ]
          refine takeH 4 75 (.int .i64 ((q + 1 : Nat) : Int)) calm_np rfl rfl (by kernel_rfl) (by kernel_rfl) (by kernel_rfl) (by rfl) (fun W' hSw => by go_simp) hHeld ?_
          try simp only [Act.put, List.setIfInBounds_toArray, List.set_cons_zero, List.set_cons_succ]
          refine takeH 5 76 (.int .i64 q) calm_np rfl rfl (by kernel_rfl) (by kernel_rfl) (by kernel_rfl) (by rfl) (fun W' hSw => by go_simp) hHeld ?_
          try simp only [Act.put, List.setIfInBounds_toArray, List.set_cons_zero, List.set_cons_succ]
          refine takeH 6 77 (.pointer (some ⟨bw, ow + q * 3, none⟩)) calm_np rfl rfl (by kernel_rfl) (by kernel_rfl) (by kernel_rfl) (by rfl) (fun W' hSw => by go_simp) hHeld ?_
          try simp only [Act.put, List.setIfInBounds_toArray, List.set_cons_zero, List.set_cons_succ]
          refine takeH 7 78 (.agg #[.int .i64 z.c, .int .i64 z.s, .int .i64 z.o]) calm_np rfl rfl (by kernel_rfl) (by kernel_rfl) (by kernel_rfl) (by rfl) (fun W' hSw => by obtain ⟨g0, g1, g2⟩ := HSP.out _ hSw; have hsz := HBP.out _ hSw; go_simp) hHeld ?_
          try simp only [Act.put, List.setIfInBounds_toArray, List.set_cons_zero, List.set_cons_succ]
          refine takeH 8 79 (.agg #[.int .i64 y.c, .int .i64 y.s, .int .i64 y.o]) calm_np rfl rfl (by kernel_rfl) (by kernel_rfl) (by kernel_rfl) (by rfl) (fun W' hSw => by obtain ⟨g0, g1, g2⟩ := HSY.out _ hSw; have hsz := HBY.out _ hSw; go_simp) hHeld ?_
          try simp only [Act.put, List.setIfInBounds_toArray, List.set_cons_zero, List.set_cons_succ]
          refine wpAnyH_ready (rs := [9]) (by kernel_rfl) (by simp) (AllReadyH.cons rfl (fun K hK => ?_) AllReadyH.nil)
          go_simp
          refine (HLS.out _).mono ?_
          rintro e V1 ⟨rfl, hz⟩
          have hh := below_trans hHeld hz
          clear hz
          go_simp
          refine hK.out _ _ hh (fun hHeld => ?_)
          clear hK hh
          try simp only [Act.put, List.setIfInBounds_toArray, List.set_cons_zero, List.set_cons_succ]
          refine takeH 10 81 (.bool false) calm_np rfl rfl (by kernel_rfl) (by kernel_rfl) (by kernel_rfl) (by rfl) (fun W' hSw => by go_simp) hHeld ?_
          try simp only [Act.put, List.setIfInBounds_toArray, List.set_cons_zero, List.set_cons_succ]
          refine takeH 11 82 (.bool false) calm_np rfl rfl (by kernel_rfl) (by kernel_rfl) (by kernel_rfl) (by rfl) (fun W' hSw => by go_simp) hHeld ?_
          try simp only [Act.put, List.setIfInBounds_toArray, List.set_cons_zero, List.set_cons_succ]
          refine wpAnyH_done (by kernel_rfl) ?_ _
          refine NoPanic.normal ?_
          have HH := Lib.hid hHeld
          clear hHeld
          go_wp2_with fail
          go_meet
          exact ⟨rfl, HH.out⟩
      case rest =>
        obtain ⟨rfl, hbel⟩ := hcut
        rename World => w6
        have HD6 := Lib.hid (below_trans HR.out (below_trans HD1.out hbel))
        obtain ⟨y0, y1, y2⟩ := HSY.out _ hbel
        have hsy := HBY.out _ hbel
        obtain ⟨⟨x0, x1, x2, x3⟩, hsx⟩ := HXR.out _ hbel
        clear hbel
        by_cases hkj : k = j
        · have ho := HFE1.out hkj
          have ho1 : (y.o == o) = true := by simpa using ho
          have HDJ : Hid (decide (j < k + 1) = true) := Lib.hid (decide_eq_true (by omega))
          subst ho
          clear ho1 hkj
          go_wp2_with fail
          go_roundw
          case rel => exact ⟨k + 1, by omega, by go_num, by rw [HDJ.out], HD6.out⟩
          case measure => simp [intOf]; omega
        · obtain ⟨ho, hla⟩ := HFN1.out hkj
          have ho1 : (y.o == o) = false := by simpa using ho
          have HDJ : Hid (decide (j < k + 1) = decide (j < k)) := Lib.hid (decide_eq_decide.2 (by omega))
          generalize decide (j < k) = bb at *
          clear hkj ho
          unfold laterB at hla
          by_cases h1 : c < y.c
          · rw [decide_eq_true h1, Bool.true_or] at hla
            subst hla
            go_wp2_with fail
            go_roundw
            case rel => exact ⟨k + 1, by omega, by go_num, by rw [HDJ.out], HD6.out⟩
            case measure => simp [intOf]; omega
          · rw [decide_eq_false h1, Bool.false_or] at hla
            by_cases h2 : y.c = c
            · have h3 : (y.c == c) = true := by simpa using h2
              rw [decide_eq_true h2, Bool.true_and] at hla
              by_cases h4 : x.w.s < y.s
              · rw [decide_eq_true h4] at hla
                subst hla
                clear h2
                go_wp2_with fail
                go_roundw
                case rel => exact ⟨k + 1, by omega, by go_num, by rw [HDJ.out], HD6.out⟩
                case measure => simp [intOf]; omega
              · rw [decide_eq_false h4] at hla
                subst hla
                clear h2
                go_wp2_with fail
                go_roundw
                case rel => exact ⟨k + 1, by omega, by go_num, by rw [HDJ.out], HD6.out⟩
                case measure => simp [intOf]; omega
            · have h3 : (y.c == c) = false := by simpa using h2
              rw [decide_eq_false h2, Bool.false_and] at hla
              subst hla
              clear h2
              go_wp2_with fail
              go_roundw
              case rel => exact ⟨k + 1, by omega, by go_num, by rw [HDJ.out], HD6.out⟩
              case measure => simp [intOf]; omega
    · obtain rfl : k = ws.length := by omega
      have HDJ : Hid (decide (j < ws.length) = true) := Lib.hid (decide_eq_true HFR.out.1)
      have HE := Lib.hid (below_trans HB2.out (below_trans HC5.out HR.out))
      go_wp2_with fail
      go_ret
      exact ⟨ret_bool HDJ.out, HE.out⟩

set_option maxRecDepth 100000 in
set_option maxHeartbeats 4000000 in
theorem lifted (os : Os) (started : os.Started) (H : Type) (enc : TypeId × Value → H) :
    ReturnsInHanded {} Try.checked os 6 .any (Rows.waitsFairSpec.pre6 enc Try.prog Try.f6 Rows.waitsFairRow.domain false) (Rows.waitsFairSpec.post enc Try.prog Try.f6 false true false false) := by
  refine returnsInHanded_of_change (C := Try.checked) own started (by kernel_rfl) Try.func6
    (ChangeSpec.witness6 (enc := enc) (C := Try.checked) false ⟨#[], #[.slice none 0 0, .int .i64 0, .int .i64 0], []⟩ 8 (by kernel_rfl) (by kernel_rfl) (by kernel_rfl) (by kernel_rfl)) ?_
  intro W base args ds gs before hval0 hW hcnd _
  have hval : ∀ (j : Nat) t v, Try.f6.params[j]? = some t → args[j]? = some v → Value.okWide Try.prog W .any base t v := hval0
  have hW' := hW
  obtain ⟨p, q, hA0, hV, rfl, hfz, hnd⟩ := hW
  have hA : DataW.TrodAll enc Try.prog W 0 (fun _ => true) true Try.f6.params.toList args.toList ds p := hA0
  rw [Try.params6] at hA hval
  obtain ⟨v0, vs0, d0, ds0, p0, q0, hargs, rfl, rfl, h0, r0⟩ := trodAll_cons hA
  obtain ⟨v1, vs1, d1, ds1, p1, q1, rfl, rfl, rfl, h1, r1⟩ := trodAll_cons r0
  obtain ⟨v2, vs2, d2, ds2, p2, q2, rfl, rfl, rfl, h2, r2⟩ := trodAll_cons r1
  obtain ⟨rfl, rfl, rfl⟩ := trodAll_nil r2
  obtain rfl : args = #[v0, v1, v2] := by cases args; simp_all
  obtain ⟨rfl, rfl⟩ := trodVars_none hV
  have k0 := h0
  have lt0 : ∀ x ∈ p0, x.block < W.heap.size := by obtain ⟨m, hm⟩ := k0; exact DataW.trod_lt m _ _ _ hm
  obtain ⟨fuel0, hf0⟩ := h0
  obtain ⟨aa0, ll0, cc0, rfl⟩ := okWide_slice Try.underlying22 (hval 0 22 v0 rfl rfl)
  have w0 := argL_of (v := .slice aa0 ll0 cc0) hf0
  obtain ⟨a1, rfl, rfl, rfl, w1⟩ := open_int Try.underlying3 (hval 1 3 v1 rfl rfl) h1
  have hb1 : -9223372036854775808 ≤ a1 ∧ a1 ≤ 9223372036854775807 := by
    have := w1
    simp [Lit.wf, IntKind.min, IntKind.max, IntKind.bits, IntKind.signed] at this
    omega
  obtain ⟨a2, rfl, rfl, rfl, w2⟩ := open_int Try.underlying3 (hval 2 3 v2 rfl rfl) h2
  have hb2 : -9223372036854775808 ≤ a2 ∧ a2 ≤ 9223372036854775807 := by
    have := w2
    simp [Lit.wf, IntKind.min, IntKind.max, IntKind.bits, IntKind.signed] at this
    omega
  clear hA0 hval0
  refine (walk0 (.slice aa0 ll0 cc0) a1 hb1.1 hb1.2 a2 hb2.1 hb2.2 W w0).mono fun e W' ⟨he, bel⟩ => ?_
  subst he
  exact ⟨_, rfl, _, _, _, [], _, [], hW', trodAll_mk1 (shut_bool Try.underlying4 _), (trodAll_cons_mk (Below.trod laidOut (by kernel_rfl) (of_decide_eq_true (by kernel_rfl)) k0 bel lt0) (trodAll_cons_mk (shut_int Try.underlying3 w1) (trodAll_cons_mk (shut_int Try.underlying3 w2) trodAll_mk0))), rfl, bel.frame _, fun h => by cases h⟩

theorem over : Rows.waitsFairRow.holds Try.pinned (OpenSpec.ofChange Rows.waitsFairSpec) :=
  OpenClaim.holds_of_wide 6 Try.f6 rfl rfl rfl rfl rfl rfl rfl ⟨rfl, rfl, rfl, rfl, rfl⟩ rfl rfl rfl rfl rfl (by kernel_rfl) Try.func6 (by kernel_rfl)
    (of_decide_eq_true (by kernel_rfl)) (by unfold Func.isWrapper; first | (rw [if_pos (by decide +kernel)]; kernel_rfl) | (rw [if_neg (by decide +kernel)]; exact ⟨rfl, rfl⟩))
    (fun os started H enc _ => lifted os started H enc)

theorem proved : Rows.WaitsFairSaid := over
#print axioms proved
end Go.Proofs.Ytcehhgcfkoldfaa.waitsFair
