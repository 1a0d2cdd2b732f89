/-
  Proved: for any lines, number and line the law WaitsBuilt returns true: an index does not hang on how it came about: the lines put in one by one, in whatever order, made at once, or put and dropped again, are the same index. No condition.
-/
import Derived.Test.YtcehhgcfkoldfaaRows
import Derived.Test.YtcehhgcfkoldfaaWArg
import Derived.Test.YtcehhgcfkoldfaaWHold
import Derived.Test.YtcehhgcfkoldfaaWAlive
import Derived.Test.YtcehhgcfkoldfaaWDrop
import Derived.Test.YtcehhgcfkoldfaaWRef1
import Derived.Deep.CutBlock
namespace Go.Proofs.Ytcehhgcfkoldfaa.waitsBuilt
open Go.ChangeShapes Go.WideShapes Go.ChangeAt Go.RowKit Go.Lib Go.Proofs.Ytcehhgcfkoldfaa.Goods Go.Proofs.Ytcehhgcfkoldfaa.Waits
open Go.Proofs.Ytcehhgcfkoldfaa.Queue (Wt ltB wv QRow)
open Go.ChangeMaps (open_string shut_string)
set_option linter.unusedVariables false

theorem own : ownKnob Try.prog.godebug = none := by kernel_rfl
theorem laidOut : laidOutB Try.prog = true := by kernel_rfl

theorem right_brief {l : List Ln} (h : RightP l) : Brief l := ⟨by have := h.1.1; omega, fun x hx => by
  have hm := h.1.2.1 x hx
  unfold mayL at hm
  have hn := (Bool.and_eq_true_iff.1 hm).1
  by_cases h1 : 1 ≤ x.k.size ∧ x.k.size ≤ 16
  · omega
  · rw [nameB_no h1] at hn; cases hn⟩
theorem all_brief {l : List Ln} (h : AllP l) {x : Ln} (hx : x ∈ l) : x.k.size ≤ 1000000 := by
  have := (right_brief (make_right h)).2 x ((makeL_perm l).mem_iff.2 hx)
  exact this
theorem all_take {r : List Ln} (h : AllP r) (k : Nat) : AllP (r.take k) := ⟨Nat.le_trans (List.length_take_le' _ _) h.1, fun x hx => h.2.1 x (List.mem_of_mem_take hx), h.2.2.sublist (List.take_sublist _ _)⟩
/-- One by one: so far. -/
theorem next_put {r : List Ln} (h : AllP r) {k : Nat} (hk : k < r.length) : putE (makeL (r.take k)) r[k] = 0 ∧ putO (makeL (r.take k)) r[k] = makeL (r.take (k + 1)) := by
  have := put_make (p := r.take k) (y := r[k]) (by rw [List.take_append_getElem hk]; exact all_take h (k + 1))
  rwa [List.take_append_getElem hk] at this
/-- Some are appended, within a region that draws. -/
theorem step_append_L {w : World} {ops : Array Oper} {o : Oper} {a : Act} {K : Act → World → Prop} {Q : Exit → Act → World → Prop} {E : Prop} (hw : Region.wanted o (yielded ops a.tmps) = true) (d : Nat) (hd : o.dst = some d) (s x : Operand)
    (ho : o.op = .call { callee := .builtin .append, args := #[s, x], argTypes := #[22, 22] })
    (base : Nat) (v : Value) (l0 : List Ln) (hs : a.eval s = v) (hown : OwnL base v l0 w) (u : Value) (l : List Ln) (hx : a.eval x = u) (hrow : LRow w u l) (h0 : l0.length ≤ 100000) (hl : l.length ≤ 100000) (hbase : base ≤ w.heap.size)
    (h : ∀ v' w', OwnL base v' (l0 ++ l) w' → Below base w w' → K (a.put (some d) v') w') : if Region.wanted o (yielded ops a.tmps) = true then Oper.wp Try.prog o a w K Q else E := by
  rw [if_pos hw]
  rw [← hd] at h
  exact wp_append_L s x ho base v l0 hs hown u l hx hrow h0 hl hbase (fun v' w' h1 h2 _ => h v' w' h1 h2)
theorem turned_by (a : Int) (m : Nat) (h0 : 0 < m) (h1 : m ≤ 1600) : ∃ p : Nat, (wrap64 (a.tmod (m : Int) + (m : Int))).tmod (m : Int) = (p : Int) ∧ p < m := by
  have hm : (0 : Int) < (m : Int) := by omega
  have l1 := Int.tmod_lt_of_pos a hm
  have l2 := Int.lt_tmod_of_pos a hm
  rw [IntWalk.wrap64_in _ ⟨by omega, by omega⟩]
  have e := Int.tmod_eq_emod_of_nonneg (a := a.tmod (m : Int) + (m : Int)) (b := (m : Int)) (by omega)
  have g1 := Int.emod_nonneg (a.tmod (m : Int) + (m : Int)) (b := (m : Int)) (by omega)
  have g2 := Int.emod_lt_of_pos (a.tmod (m : Int) + (m : Int)) hm
  exact ⟨((a.tmod (m : Int) + (m : Int)) % (m : Int)).toNat, by rw [e]; omega, by omega⟩

set_option maxRecDepth 100000 in
set_option maxHeartbeats 8000000 in
theorem walk0 (v : Value) (b : Int) (hb1 : -9223372036854775808 ≤ b) (hb2 : b ≤ 9223372036854775807) (x : Ln) (hx : x.k.size ≤ 9223372036854775807) (w : World) (hv : ArgL w v) :
    Calls Try.prog 5 #[v, .int .i64 b, lv x] w (BoolB true w) := by
  obtain ⟨l0, hr0, hl0⟩ := hv
  have HFE := Lib.hid (fun W (hW : Below w.heap.size w W) => few_any (w := W) ⟨l0, hr0.below hW, hl0⟩)
  obtain ⟨a, cap, rfl⟩ := hr0.slice
  have hcu := fun W => cut_any x hx W
  unfold CutE at hcu
  have HCU := Lib.hid hcu
  have HX00 := Lib.hid (Box.made w (lcs x) 26)
  have HB00 := Lib.hid (al w (.cells #[.string x.k, .int .i64 x.w.c, .int .i64 x.w.s, .int .i64 x.w.o] 26))
  clear hr0 hl0 hcu hx
  generalize l0.length = n0 at *
  unfold lv
  go_enter Try.func5, Try.ntmps5
  go_upto_region 1 with (fail)
  obtain ⟨W, hW⟩ : ∃ W, w.alloc (.cells #[.string x.k, .int .i64 x.w.c, .int .i64 x.w.s, .int .i64 x.w.o] 26) = W := ⟨_, rfl⟩
  have HX0 : Hid (Box w.heap.size (lcs x) W) := Lib.hid (hW ▸ HX00.out)
  have HB0 : Hid (Below w.heap.size w W) := Lib.hid (hW ▸ HB00.out)
  rw [hW]
  clear hW HX00 HB00
  go_cut [0] from 18 to 21 (fun u wx => ∃ l a c y, u = .slice a l.length c ∧ Tiny l ∧ LRow wx (.slice a l.length c) l ∧ y.k.size ≤ 18 ∧ Box w.heap.size (lcs y) wx ∧ Below w.heap.size w wx)
  case first =>
    refine wp_region_noPanic ?_
    refine till_region (fun W' => Box w.heap.size (lcs x) W' ∧ Below w.heap.size w W') (fun j => decide (4 ≤ j)) (by kernel_rfl) ?_
    have hS : Box w.heap.size (lcs x) W.drew ∧ Below w.heap.size w W.drew := ⟨HX0.out.below (dr W), below_trans HB0.out (dr W)⟩
    try simp only [Act.put, List.setIfInBounds_toArray, List.set_cons_zero, List.set_cons_succ]
    refine takeT 0 18 [4, 5] (.slice a n0 cap) calm_np rfl rfl (by kernel_rfl) (by rfl) (by kernel_rfl) (by kernel_rfl) (by kernel_rfl) (by kernel_rfl) (by rfl) (fun w' hSw => by go_simp) hS ?_
    try simp only [Act.put, List.setIfInBounds_toArray, List.set_cons_zero, List.set_cons_succ]
    refine takeT 2 20 [3, 4, 5] (.agg #[.string x.k, .int .i64 x.w.c, .int .i64 x.w.s, .int .i64 x.w.o]) calm_np rfl rfl (by kernel_rfl) (by rfl) (by kernel_rfl) (by kernel_rfl) (by kernel_rfl) (by kernel_rfl) (by rfl) (fun w' hSw => by obtain ⟨c0, c1, c2, c3⟩ := box4 hSw.1; have hsl := hSw.1.1; go_simp) hS ?_
    try simp only [Act.put, List.setIfInBounds_toArray, List.set_cons_zero, List.set_cons_succ]
    refine till_ready (rs := [1]) (by kernel_rfl) (by simp) (Each.cons rfl (fun K hK => ?_) Each.nil)
    go_simp
    go_at_call 7
    refine (HFE.out _ hS.2).mono ?_
    rintro e V1 ⟨v1, l, rfl, htiny, hown, hz⟩
    obtain ⟨av, cv, rfl⟩ := hown.row.slice
    have hS1 : Box w.heap.size (lcs x) V1 ∧ Below w.heap.size w V1 := ⟨hS.1.below hz, below_trans hS.2 hz⟩
    have hlt : w.heap.size < W.drew.heap.size := hS.1.1
    go_simp
    refine hK.out _ _ (fun _ => hS1) ?_
    clear hK
    try simp only [Act.put, List.setIfInBounds_toArray, List.set_cons_zero, List.set_cons_succ]
    refine till_ready (rs := [3]) (by kernel_rfl) (by simp) (Each.cons rfl (fun K hK => ?_) Each.nil)
    go_simp
    go_at_call 8
    refine (HCU.out _).mono ?_
    rintro e V2 ⟨s, rfl, hs18, hz2⟩
    have hS2 : Box w.heap.size (lcs x) V2 ∧ Below w.heap.size w V2 := ⟨hS1.1.below hz2, below_trans hS1.2 hz2⟩
    have hrow := (((((hown.below hz2).far hlt 0 (.string s)).far hlt 1 (.int .i64 x.w.c)).far hlt 2 (.int .i64 x.w.s)).far hlt 3 (.int .i64 x.w.o)).row
    have hbox := Waits.Box.four hS2.1 (.string s) (.int .i64 x.w.c) (.int .i64 x.w.s) (.int .i64 x.w.o)
    have hbel := below_four (b := w.heap.size) (.string s) (.int .i64 x.w.c) (.int .i64 x.w.s) (.int .i64 x.w.o) hS2.2 (Nat.le_refl _)
    obtain ⟨d0, d1, d2, d3⟩ := box4 hS2.1
    obtain ⟨f0, f1, f2, f3⟩ := free4 hS2.1
    have hsl := hS2.1.1
    have HROW := Lib.hid hrow
    have HBOX := Lib.hid hbox
    have HBEL := Lib.hid hbel
    clear hrow hbox hbel
    go_simp
    refine hK.out _ _ (fun _ => hS2) ?_
    clear hK
    try simp only [Act.put, List.setIfInBounds_toArray, List.set_cons_zero, List.set_cons_succ]
    refine till_ready (rs := [4]) (by kernel_rfl) (by simp) (Each.cons rfl (fun K hK => ?_) Each.nil)
    go_simp
    refine hK.out _ _ (fun h => by cases h) ?_
    clear hK
    try simp only [Act.put, List.setIfInBounds_toArray, List.set_cons_zero, List.set_cons_succ]
    refine till_ready (rs := [5]) (by kernel_rfl) (by simp) (Each.cons rfl (fun K hK => ?_) Each.nil)
    go_simp
    refine hK.out _ _ (fun h => by cases h) ?_
    clear hK
    try simp only [Act.put, List.setIfInBounds_toArray, List.set_cons_zero, List.set_cons_succ]
    refine till_done (by kernel_rfl) ?_ _
    refine NoPanic.normal ?_
    go_wp2_with fail
    go_meet
    exact ⟨l, av, cv, ⟨s, x.w⟩, rfl, htiny, HROW.out, hs18, HBOX.out, HBEL.out⟩
  case rest =>
  obtain ⟨l, a1, c1, y, rfl, hti, hrow, hy18, hbox, hbel⟩ := hcut
  clear HFE HCU HX0 HB0
  rename World => w1
  have hbr := hti.brief
  have hlen := hti.1
  have hys : y.k.size ≤ 1000000 := by omega
  have HB := Lib.hid hbel
  have HBX := Lib.hid hbox
  have HRW := Lib.hid hrow
  have HMK := Lib.hid (Make_any hrow hbr)
  have HAL := Lib.hid alive_any
  have HSM := Lib.hid (fun (u u' : Value) (m : List Ln) W (h : LRow W u m) (h' : LRow W u' m) => (decide_eq_true (rfl : m = m)) ▸ Waits.Same_any h h')
  have HYS := Lib.hid hys
  have HLN := Lib.hid hlen
  clear hti hrow hbr hys hy18 hbox hbel hlen
  unfold makeO makeE at HMK
  cases hall : Waits.allB l with
  | false =>
    rw [hall, if_neg (by simp), if_neg (by simp)] at HMK
    clear hall HRW
    go_wp2_with fail
    (with_reducible refine HMK.out.mono ?_)
    rintro e w2 ⟨v2, rfl, hr2, hz⟩
    obtain ⟨a2, c2, rfl⟩ := hr2.slice
    have HB2 := Lib.hid (below_trans HB.out hz)
    clear hz hr2
    go_wp2_with fail
    (with_reducible refine (HAL.out _).mono ?_)
    rintro e w3 ⟨rfl, hz⟩
    have HB3 := Lib.hid (below_trans HB2.out hz)
    clear hz
    go_wp2_with fail
    go_ret
    exact ⟨rfl, HB3.out⟩
  | true =>
    have HALP := Lib.hid (allB_t.1 hall)
    rw [hall, if_pos rfl, if_pos rfl] at HMK
    clear hall
    by_cases hl0 : l = []
    · subst hl0
      simp only [List.length_nil] at HMK
      clear HRW
      go_wp2_with fail
      (with_reducible refine HMK.out.mono ?_)
      rintro e w2 ⟨v2, rfl, hr2, hz⟩
      obtain ⟨a2, n2, c2, rfl⟩ : ∃ a n c, v2 = .slice a n c := (by obtain ⟨a', c', e⟩ := hr2.slice; exact ⟨a', _, c', e⟩)
      have HB2 := Lib.hid (below_trans HB.out hz)
      obtain rfl : n2 = 0 := hr2.cap.1
      clear hz hr2
      go_wp2_with fail
      (with_reducible refine (HAL.out _).mono ?_)
      rintro e w3 ⟨rfl, hz⟩
      have HB3 := Lib.hid (below_trans HB2.out hz)
      clear hz
      go_wp2_with fail
      go_ret
      exact ⟨rfl, HB3.out⟩
    have hpos : 0 < l.length := List.length_pos_iff.2 hl0
    clear hl0
    obtain ⟨bl, ol, rfl, hlc, hcap, _, hfour⟩ := HRW.out.at hpos
    clear hfour
    have hl34 := HLN.out
    generalize hln : l.length = ln at *
    have HLE := Lib.hid hln
    clear hln
    have nz1 : ((ln : Int) == 0) = false := by simpa using (by omega : ¬ (ln : Int) = 0)
    have nz2 : ¬ (ln : Int) = 0 := by omega
    go_wp2_with fail
    (with_reducible refine HMK.out.mono ?_)
    rintro e w2 ⟨v2, rfl, hr2, hz⟩
    obtain ⟨a2, n2, c2, rfl⟩ : ∃ a n c, v2 = .slice a n c := (by obtain ⟨a', c', e⟩ := hr2.slice; exact ⟨a', _, c', e⟩)
    have HB2 := Lib.hid hz
    have HR2 := Lib.hid hr2
    have HRL2 := Lib.hid (HRW.out.below hz)
    have HBX2 := Lib.hid (HBX.out.below hz)
    clear hz hr2 HMK
    go_upto_region 5 with fail
    go_cut [1] from 40 to 49 (fun u wx => ∃ p : Nat, u = .int .i64 p ∧ p < ln ∧ Below w2.heap.size w2 wx)
    case first =>
      go_wp2_with fail
      go_meet
      obtain ⟨p, hp, hpl⟩ := turned_by b ln (by omega) (by omega)
      exact ⟨p, by rw [hp], hpl, Below.refl _ _⟩
    case rest =>
    obtain ⟨p, rfl, hp, hbel⟩ := hcut
    rename World => w5
    have HB5 := Lib.hid (below_trans HB2.out hbel)
    have HR25 := Lib.hid (HR2.out.below hbel)
    have HBX5 := Lib.hid (HBX2.out.below hbel)
    have hrl5 := HRL2.out.below hbel
    have hd5 : LRow w5 (.slice (some ⟨bl, ol + p * 4, none⟩) (ln - p) (c1 - p)) (l.drop p) := by
      have h5 := hrl5
      rw [← HLE.out] at h5 ⊢
      have := h5.drop (n := p) (by rw [HLE.out]; omega)
      rwa [addr_add] at this
    have ht5 : LRow w5 (.slice (some ⟨bl, ol, none⟩) p c1) (l.take p) := by
      have h5 := hrl5
      rw [← HLE.out] at h5
      exact h5.take (n := p) (by rw [HLE.out]; omega)
    have HTD := Lib.hid hd5
    have HTT := Lib.hid ht5
    clear hbel hrl5 hd5 ht5 HRL2 HBX2 HR2 HB2 HRW hb1 hb2
    have q1 : (0 : Int) ≤ p := by omega
    have q2 : (p : Int) ≤ ln := by omega
    have q3 : (p : Int) ≤ c1 := by omega
    have q4 : (ln : Int) ≤ c1 := by omega
    have q5 : (c1 = p) = False := eq_false (by omega)
    go_upto_region 7 with fail
    go_cut [58, 59, 60] from 50 to 60 (fun u z i wx => ∃ r a c, u = .slice a r.length c ∧ z = .int .i64 r.length ∧ i = .int .i64 0 ∧ LRow wx (.slice a r.length c) r ∧ r.Perm l ∧ Below w5.heap.size w5 wx)
    case first =>
      refine wp_region_noPanic ?_
      refine wp_region_held_drew (S := fun W' => Below w5.heap.size w5 W') (by kernel_rfl) (dr w5) (fun hHeld => ?_)
      try simp only [Act.put, List.setIfInBounds_toArray, List.set_cons_zero, List.set_cons_succ]
      refine takeH 1 51 (.slice (some ⟨bl, ol, none⟩) ln c1) calm_np rfl rfl (by kernel_rfl) (by kernel_rfl) (by kernel_rfl) (by rfl) (fun W' hSw => by go_simp) hHeld ?_
      try simp only [Act.put, List.setIfInBounds_toArray, List.set_cons_zero, List.set_cons_succ]
      refine takeH 2 52 (.int .i64 p) calm_np rfl rfl (by kernel_rfl) (by kernel_rfl) (by kernel_rfl) (by rfl) (fun W' hSw => by go_simp) hHeld ?_
      try simp only [Act.put, List.setIfInBounds_toArray, List.set_cons_zero, List.set_cons_succ]
      refine takeH 3 53 (.slice (some ⟨bl, ol + p * 4, none⟩) (ln - p) (c1 - p)) calm_np rfl rfl (by kernel_rfl) (by kernel_rfl) (by kernel_rfl) (by rfl) (fun W' hSw => by go_simp) hHeld ?_
      try simp only [Act.put, List.setIfInBounds_toArray, List.set_cons_zero, List.set_cons_succ]
      refine takeH 5 55 (.slice (some ⟨bl, ol, none⟩) ln c1) calm_np rfl rfl (by kernel_rfl) (by kernel_rfl) (by kernel_rfl) (by rfl) (fun W' hSw => by go_simp) hHeld ?_
      try simp only [Act.put, List.setIfInBounds_toArray, List.set_cons_zero, List.set_cons_succ]
      refine takeH 6 56 (.int .i64 p) calm_np rfl rfl (by kernel_rfl) (by kernel_rfl) (by kernel_rfl) (by rfl) (fun W' hSw => by go_simp) hHeld ?_
      try simp only [Act.put, List.setIfInBounds_toArray, List.set_cons_zero, List.set_cons_succ]
      refine takeH 7 57 (.slice (some ⟨bl, ol, none⟩) p c1) calm_np rfl rfl (by kernel_rfl) (by kernel_rfl) (by kernel_rfl) (by rfl) (fun W' hSw => by go_simp) hHeld ?_
      try simp only [Act.put, List.setIfInBounds_toArray, List.set_cons_zero, List.set_cons_succ]
      refine takeH 10 60 (.int .i64 0) calm_np rfl rfl (by kernel_rfl) (by kernel_rfl) (by kernel_rfl) (by rfl) (fun W' hSw => by go_simp) hHeld ?_
      try simp only [Act.put, List.setIfInBounds_toArray, List.set_cons_zero, List.set_cons_succ]
      refine wpAnyH_ready (rs := [0]) (by kernel_rfl) (by simp) (AllReadyH.cons rfl (fun K hK => ?_) AllReadyH.nil)
      go_simp
      have hn0 : OwnL w5.heap.size (.slice (some ⟨w5.heap.size, 0, none⟩) 0 0) [] (w5.alloc (.cells #[] 26)).drew := (OwnL.empty w5 (Nat.le_refl _)).below (dr _)
      have hh : Below w5.heap.size w5 (w5.alloc (.cells #[] 26)).drew := below_trans (al w5 (.cells #[] 26)) (dr _)
      have HH6 := Lib.hid hh
      refine hK.out _ _ hh (fun hHeld => ?_)
      clear hK hh
      try simp only [Act.put, List.setIfInBounds_toArray, List.set_cons_zero, List.set_cons_succ]
      generalize (w5.alloc (.cells #[] 26)).drew = W6 at *
      have hs6 := hHeld.size
      refine wpAnyH_ready (rs := [4]) (by kernel_rfl) (by simp) (AllReadyH.cons rfl (fun K hK => ?_) AllReadyH.nil)
      refine step_append_L (by rfl) 54 rfl _ _ rfl w5.heap.size _ [] rfl hn0 _ (l.drop p) rfl (HTD.out.below hHeld) (by simp) (by rw [List.length_drop, HLE.out]; omega) hs6 (fun v1 W7 ho1 hb1 => ?_)
      obtain ⟨e1, e2, e3, rfl⟩ : ∃ a n c, v1 = .slice a n c := (by obtain ⟨a', c', e⟩ := ho1.row.slice; exact ⟨a', _, c', e⟩)
      have hh : Below w5.heap.size w5 W7 := hHeld.trans hb1
      have HO1 := Lib.hid ho1
      refine hK.out _ _ hh (fun hHeld => ?_)
      clear hK hh ho1 hb1 hn0 hs6
      try simp only [Act.put, List.setIfInBounds_toArray, List.set_cons_zero, List.set_cons_succ]
      have hs7 := hHeld.size
      refine wpAnyH_ready (rs := [8]) (by kernel_rfl) (by simp) (AllReadyH.cons rfl (fun K hK => ?_) AllReadyH.nil)
      refine step_append_L (by rfl) 58 rfl _ _ rfl w5.heap.size _ ([] ++ l.drop p) rfl HO1.out _ (l.take p) rfl (HTT.out.below hHeld) (by rw [List.nil_append, List.length_drop, HLE.out]; omega) (by rw [List.length_take]; omega) hs7 (fun v2 W8 ho2 hb2 => ?_)
      have hperm : ([] ++ l.drop p ++ l.take p).Perm l := by rw [List.nil_append]; exact List.perm_append_comm.trans (List.Perm.of_eq (List.take_append_drop p l))
      generalize [] ++ l.drop p ++ l.take p = r at *
      obtain ⟨f1, f3, rfl⟩ := ho2.row.slice
      have hh : Below w5.heap.size w5 W8 := hHeld.trans hb2
      have HO2 := Lib.hid ho2.row
      refine hK.out _ _ hh (fun hHeld => ?_)
      clear hK hh ho2 hb2 hs7
      try simp only [Act.put, List.setIfInBounds_toArray, List.set_cons_zero, List.set_cons_succ]
      refine takeH 9 59 (.int .i64 r.length) calm_np rfl rfl (by kernel_rfl) (by kernel_rfl) (by kernel_rfl) (by rfl) (fun W' hSw => by go_simp) hHeld ?_
      try simp only [Act.put, List.setIfInBounds_toArray, List.set_cons_zero, List.set_cons_succ]
      refine wpAnyH_done (by kernel_rfl) ?_ _
      refine NoPanic.normal ?_
      have HH := Lib.hid hHeld
      clear hHeld
      go_wp2_with fail
      go_meet
      exact ⟨r, f1, f3, rfl, rfl, rfl, HO2.out, hperm, HH.out⟩
    case rest =>
    obtain ⟨r, a6, c6, rfl, rfl, rfl, hr6, hperm, hbel⟩ := hcut
    clear HTD HTT HLE q1 q2 q3 q4 q5 nz1 nz2
    have hallr := AllP.perm hperm HALP.out
    rename World => w6
    have HB6 := Lib.hid (below_trans HB5.out hbel)
    have HR26 := Lib.hid (HR25.out.below hbel)
    have HBX6 := Lib.hid (HBX5.out.below hbel)
    have HR6 := Lib.hid hr6
    have hmk : makeL r = makeL l := makeL_eq hperm
    have HNP := Lib.hid (fun k (hk : k < r.length) => next_put hallr hk)
    have hrl := hallr.1
    have HSZ := Lib.hid (fun k (hk : k < r.length) => all_brief hallr (List.getElem_mem hk))
    have HBRF := Lib.hid (fun k => right_brief (make_right (all_take hallr k)))
    have hRM := make_right hallr
    have HRM := Lib.hid hRM
    have HPD := Lib.hid (fun (e : putE (makeL r) y = 0) => put_drop e)
    have HPR := Lib.hid (fun (e : putE (makeL r) y = 0) => right_brief (put_done e).2.2.2.2.2)
    have HPZ : Hid (putE (makeL r) y ≠ 0 → putO (makeL r) y = []) := Lib.hid (fun h => if_neg h)
    rw [← hmk] at HR26
    clear hperm hbel hr6 hmk hallr hRM HALP HR25 HBX5 HB5
    go_wp2_with fail
    go_loopw [9, 11, 12, 13, 60] (fun u _ _ _ i wr => ∃ k : Nat, k ≤ r.length ∧ i = .int .i64 k ∧ MakeR r k u w6 wr) (fun _ _ _ _ i _ => r.length - (intOf i).toNat)
    case atStart => exact ⟨0, Nat.zero_le _, rfl, LRow.nil _, Below.refl _ _⟩
    case round =>
      obtain ⟨k, hk, rfl, hr⟩ := hrel
      obtain ⟨ua, un, uc, rfl⟩ : ∃ a n c, u9 = .slice a n c := (by obtain ⟨a', c', e⟩ := hr.1.slice; exact ⟨a', _, c', e⟩)
      have HMR := Lib.hid hr
      clear hr
      by_cases hlt : k < r.length
      · obtain ⟨b', off, rfl, hlc', hcap', hb', k0, k1, k2, k3⟩ := (HR6.out.below HMR.out.2).at hlt
        obtain ⟨hp1, hp2⟩ := HNP.out k hlt
        have hb1 := al wr (.cells (lcs r[k]).toArray 26)
        have hpu := Put_any (HMR.out.1.below hb1) (HBRF.out k) r[k] (HSZ.out k hlt)
        rw [hp1, hp2] at hpu
        generalize r[k] = z at *
        unfold lcs at hb1 hpu
        unfold lv at hpu
        have HPU := Lib.hid hpu
        have HB1 := Lib.hid (below_trans HMR.out.2 hb1)
        clear hpu hb1 hp1 hp2
        go_wp2_with fail
        (with_reducible refine HPU.out.mono ?_)
        rintro e w7 ⟨v7, rfl, hr7, hz⟩
        obtain ⟨a7, n7, c7, rfl⟩ : ∃ a n c, v7 = .slice a n c := (by obtain ⟨a', c', e⟩ := hr7.slice; exact ⟨a', _, c', e⟩)
        have HMR2 := Lib.hid (show MakeR r (k + 1) (.slice a7 n7 c7) w6 w7 from ⟨hr7, below_trans HB1.out hz⟩)
        clear hr7 hz
        go_wp2_with fail
        go_roundw
        case rel => exact ⟨k + 1, by omega, by go_num, HMR2.out⟩
        case measure => simp [intOf]; omega
      · obtain rfl : k = r.length := by omega
        have hrow9 : LRow wr (.slice ua un uc) (makeL r) := (congrArg (LRow wr (.slice ua un uc)) (congrArg makeL List.take_length)).mp HMR.out.1
        have hbr9 : Brief (makeL r) := right_brief HRM.out
        have HR9 := Lib.hid hrow9
        have HBwr := HMR.out.2
        have HBR := Lib.hid (below_trans HB6.out HBwr)
        have HR2R := Lib.hid (HR26.out.below HBwr)
        have HBXR := Lib.hid (HBX6.out.below HBwr)
        have HSS := Lib.hid (HSM.out _ _ _ _ hrow9 (HR26.out.below HBwr))
        have hpu := fun W (hb : Below wr.heap.size wr W) => Put_any (hrow9.below hb) hbr9 y HYS.out
        unfold lv at hpu
        have HPU := Lib.hid hpu
        clear hpu hrow9 hbr9 HBwr HNP HSZ HBRF HMR HR26 HBX6 HB6 HR6
        generalize hpo : putO (makeL r) y = po at *
        generalize hpe : putE (makeL r) y = pe at *
        have HPO := Lib.hid hpo
        have HPE := Lib.hid hpe
        clear hpo hpe
        go_wp2_with fail
        (with_reducible refine HSS.out.mono ?_)
        rintro e u1 ⟨rfl, hz⟩
        have HC1 := Lib.hid hz
        clear hz
        go_wp2_with fail
        (with_reducible refine (HAL.out _).mono ?_)
        rintro e u2 ⟨rfl, hz⟩
        have HC2 := Lib.hid (below_trans HC1.out hz)
        have HBX2 := Lib.hid (HBXR.out.below HC2.out)
        obtain ⟨x0, x1, x2, x3⟩ := box4 HBX2.out
        have hsx := HBX2.out.1
        clear hz HC1
        go_wp2_with fail
        (with_reducible refine (HPU.out _ HC2.out).mono ?_)
        rintro e u3 ⟨v8, rfl, hr8, hz⟩
        obtain ⟨a8, n8, c8, rfl⟩ : ∃ a n c, v8 = .slice a n c := (by obtain ⟨a', c', e⟩ := hr8.slice; exact ⟨a', _, c', e⟩)
        have HC3 := Lib.hid (below_trans HC2.out hz)
        have HBX3 := Lib.hid (HBX2.out.below hz)
        have HR8 := Lib.hid hr8
        clear hz hr8 x0 x1 x2 x3 hsx
        by_cases hpe0 : pe = 0
        · subst hpe0
          obtain ⟨hd1, hd2⟩ := HPD.out rfl
          have hdr := Drop_any HR8.out (HPR.out rfl) y.w.o
          rw [hd1, hd2] at hdr
          have HDR := Lib.hid hdr
          obtain ⟨x0, x1, x2, x3⟩ := box4 HBX3.out
          have hsx := HBX3.out.1
          clear hd1 hd2 hdr
          go_wp2_with fail
          (with_reducible refine HDR.out.mono ?_)
          rintro e u4 ⟨v9, rfl, hr9, hz⟩
          obtain ⟨a9, n9, c9, rfl⟩ : ∃ a n c, v9 = .slice a n c := (by obtain ⟨a', c', e⟩ := hr9.slice; exact ⟨a', _, c', e⟩)
          have HC4 := Lib.hid (below_trans HC3.out hz)
          have HS4 := Lib.hid (HSM.out _ _ _ _ hr9 (HR2R.out.below HC4.out))
          clear hz hr9 x0 x1 x2 x3 hsx
          go_wp2_with fail
          (with_reducible refine HS4.out.mono ?_)
          rintro e u5 ⟨rfl, hz⟩
          have HE := Lib.hid (below_trans HB.out (below_trans HBR.out (below_trans HC4.out hz)))
          clear hz
          go_wp2_with fail
          go_ret
          exact ⟨rfl, HE.out⟩
        · obtain rfl := HPZ.out hpe0
          obtain rfl : n8 = 0 := HR8.out.cap.1
          have e1 : (pe == 0) = false := by simpa using hpe0
          have e2 : (pe != 0) = true := by simpa using hpe0
          have HE := Lib.hid (below_trans HB.out (below_trans HBR.out HC3.out))
          clear hpe0
          go_wp2_with fail
          go_ret
          exact ⟨rfl, HE.out⟩

set_option maxRecDepth 100000 in
set_option maxHeartbeats 4000000 in
theorem lifted (os : Os) (started : os.Started) (H : Type) (enc : TypeId × Value → H) :
    ReturnsInHanded {} Try.checked os 5 .any (Rows.waitsBuiltSpec.pre6 enc Try.prog Try.f5 Rows.waitsBuiltRow.domain false) (Rows.waitsBuiltSpec.post enc Try.prog Try.f5 false true false false) := by
  refine returnsInHanded_of_change (C := Try.checked) own started (by kernel_rfl) Try.func5
    (ChangeSpec.witness6 (enc := enc) (C := Try.checked) false ⟨#[], #[.slice none 0 0, .int .i64 0, .agg #[.string ByteArray.empty, .int .i64 0, .int .i64 0, .int .i64 0]], []⟩ 8 (by kernel_rfl) (by kernel_rfl) (by kernel_rfl) (by kernel_rfl)) ?_
  intro W base args ds gs before hval0 hW hcnd _
  have hval : ∀ (j : Nat) t v, Try.f5.params[j]? = some t → args[j]? = some v → Value.okWide Try.prog W .any base t v := hval0
  have hW' := hW
  obtain ⟨p, q, hA0, hV, rfl, hfz, hnd⟩ := hW
  have hA : DataW.TrodAll enc Try.prog W 0 (fun _ => true) true Try.f5.params.toList args.toList ds p := hA0
  rw [Try.params5] at hA hval
  obtain ⟨v0, vs0, d0, ds0, p0, q0, hargs, rfl, rfl, h0, r0⟩ := trodAll_cons hA
  obtain ⟨v1, vs1, d1, ds1, p1, q1, rfl, rfl, rfl, h1, r1⟩ := trodAll_cons r0
  obtain ⟨v2, vs2, d2, ds2, p2, q2, rfl, rfl, rfl, h2, r2⟩ := trodAll_cons r1
  obtain ⟨rfl, rfl, rfl⟩ := trodAll_nil r2
  obtain rfl : args = #[v0, v1, v2] := by cases args; simp_all
  obtain ⟨rfl, rfl⟩ := trodVars_none hV
  have k0 := h0
  have lt0 : ∀ x ∈ p0, x.block < W.heap.size := by obtain ⟨m, hm⟩ := k0; exact DataW.trod_lt m _ _ _ hm
  obtain ⟨fuel0, hf0⟩ := h0
  obtain ⟨aa0, ll0, cc0, rfl⟩ := okWide_slice Try.underlying22 (hval 0 22 v0 rfl rfl)
  have w0 := argL_of (v := .slice aa0 ll0 cc0) hf0
  obtain ⟨a1, rfl, rfl, rfl, w1⟩ := open_int Try.underlying3 (hval 1 3 v1 rfl rfl) h1
  have hb1 : -9223372036854775808 ≤ a1 ∧ a1 ≤ 9223372036854775807 := by
    have := w1
    simp [Lit.wf, IntKind.min, IntKind.max, IntKind.bits, IntKind.signed] at this
    omega
  have k2 := h2
  have lt2 : ∀ x ∈ p2, x.block < W.heap.size := by obtain ⟨m, hm⟩ := k2; exact DataW.trod_lt m _ _ _ hm
  obtain ⟨fuel2, hf2⟩ := h2
  obtain ⟨x2, rfl, w2⟩ := open_line (hval 2 26 v2 rfl rfl) hf2
  clear hA0 hval0
  refine (walk0 (.slice aa0 ll0 cc0) a1 hb1.1 hb1.2 x2 w2 W w0).mono fun e W' ⟨he, bel⟩ => ?_
  subst he
  exact ⟨_, rfl, _, _, _, [], _, [], hW', trodAll_mk1 (shut_bool Try.underlying4 _), (trodAll_cons_mk (Below.trod laidOut (by kernel_rfl) (of_decide_eq_true (by kernel_rfl)) k0 bel lt0) (trodAll_cons_mk (shut_int Try.underlying3 w1) (trodAll_cons_mk (Below.trod laidOut (by kernel_rfl) (of_decide_eq_true (by kernel_rfl)) k2 bel lt2) trodAll_mk0))), rfl, bel.frame _, fun h => by cases h⟩

theorem over : Rows.waitsBuiltRow.holds Try.pinned (OpenSpec.ofChange Rows.waitsBuiltSpec) :=
  OpenClaim.holds_of_wide 5 Try.f5 rfl rfl rfl rfl rfl rfl rfl ⟨rfl, rfl, rfl, rfl, rfl⟩ rfl rfl rfl rfl rfl (by kernel_rfl) Try.func5 (by kernel_rfl)
    (of_decide_eq_true (by kernel_rfl)) (by unfold Func.isWrapper; first | (rw [if_pos (by decide +kernel)]; kernel_rfl) | (rw [if_neg (by decide +kernel)]; exact ⟨rfl, rfl⟩))
    (fun os started H enc _ => lifted os started H enc)

theorem proved : Rows.WaitsBuiltSaid := over
#print axioms proved
end Go.Proofs.Ytcehhgcfkoldfaa.waitsBuilt
