/-
  Proved: for any parcels and acts the law NetOnce returns true: parcels that are posted, and taken in whatever order, come as often as they were there, each as it was, but for its number. No condition.
-/
import Derived.Test.YtkfjhfneagjejaaRows
import Derived.Test.YtkfjhfneagjejaaNHead
import Derived.Deep.CutBlock
import Derived.Deep.CutRange
namespace Go.Proofs.Ytkfjhfneagjejaa.netOnce
open Go.ChangeShapes Go.WideShapes Go.ChangeAt Go.RowKit Go.Lib Go.Proofs.Ytkfjhfneagjejaa.Net
open Go.Proofs.Ytkfjhfneagjejaa.Queue (Box al dr below_trans ret_bool BoolB)
open Go.Proofs.Ytkfjhfneagjejaa.Outbox (InI)
set_option linter.unusedVariables false

theorem own : ownKnob Try.prog.godebug = none := by kernel_rfl
theorem laidOut : laidOutB Try.prog = true := by kernel_rfl

/-- A remainder that is turned to at least 0. -/
theorem mod_any (n : Nat) (h0 : 0 < n) (h1 : n < 1000) (k : Int) : ∃ m : Nat, m < n ∧ Int.tmod (Int.tmod k n + n) n = m ∧ -(n : Int) < Int.tmod k n ∧ Int.tmod k n < n := by
  have h : -(n : Int) < k.tmod n ∧ k.tmod n < n := by
    rcases Int.le_total 0 k with h | h
    · rw [Int.tmod_eq_emod_of_nonneg h]
      have := Int.emod_nonneg k (by omega : (n : Int) ≠ 0)
      have := Int.emod_lt_of_pos k (by omega : (0 : Int) < n)
      omega
    · obtain ⟨m, rfl⟩ : ∃ m, k = -m := ⟨-k, by omega⟩
      rw [Int.neg_tmod, Int.tmod_eq_emod_of_nonneg (by omega)]
      have := Int.emod_nonneg m (by omega : (n : Int) ≠ 0)
      have := Int.emod_lt_of_pos m (by omega : (0 : Int) < n)
      omega
  have e : Int.tmod (Int.tmod k n + n) n = (Int.tmod k n + n) % n := Int.tmod_eq_emod_of_nonneg (by omega)
  have p1 := Int.emod_nonneg (Int.tmod k n + n) (by omega : (n : Int) ≠ 0)
  have p2 := Int.emod_lt_of_pos (Int.tmod k n + n) (by omega : (0 : Int) < n)
  exact ⟨(Int.tmod (Int.tmod k n + n) n).toNat, by omega, by omega, h.1, h.2⟩
theorem mod3 (k : Int) : ∃ q m : Int, Int.tmod k 3 = q ∧ -3 < q ∧ q < 3 ∧ Int.tmod (q + 3) 3 = m ∧ 0 ≤ m ∧ m ≤ 2 := by
  obtain ⟨m, h1, h2, h3, h4⟩ := mod_any 3 (by omega) (by omega) k
  exact ⟨_, m, rfl, h3, h4, h2, by omega, by omega⟩
theorem div3 (k : Int) (h : -9223372036854775808 ≤ k ∧ k ≤ 9223372036854775807) : ∃ d : Int, Int.tdiv k 3 = d ∧ -9223372036854775808 ≤ d ∧ d ≤ 9223372036854775807 := by
  refine ⟨_, rfl, ?_⟩
  rcases Int.le_total 0 k with h0 | h0
  · rw [Int.tdiv_eq_ediv_of_nonneg h0]
    omega
  · obtain ⟨m, rfl⟩ : ∃ m, k = -m := ⟨-k, by omega⟩
    rw [Int.neg_tdiv, Int.tdiv_eq_ediv_of_nonneg (by omega)]
    omega
theorem place_any (n : Nat) (h0 : 0 < n) (h1 : n < 1000) (k : Int) : ∃ (q : Int) (m : Nat), Int.tmod k n = q ∧ -(n : Int) < q ∧ q < n ∧ Int.tmod (q + n) n = m ∧ m < n := by
  obtain ⟨m, h2, h3, h4, h5⟩ := mod_any n h0 h1 k
  exact ⟨_, m, rfl, h4, h5, h3, h2⟩

set_option maxRecDepth 100000 in
set_option maxHeartbeats 64000000 in
theorem walk0 (v0 : Value) (va0 : Value) (w : World) (hA : ArgN w v0) (hI : ArgI w va0) :
    Calls Try.prog 4 #[v0, va0] w (BoolB true w) := by
  obtain ⟨l0, h0⟩ := hA
  obtain ⟨a0, cap0, rfl⟩ := h0.slice
  obtain ⟨ai, len, capi, rfl, hlci, hcapi, hacts⟩ := hI
  have HACT := Lib.hid hacts
  have HL0 := Lib.hid h0
  have hcap0 := (NRow.cap h0).2
  obtain ⟨W3, hW3⟩ : ∃ W, (w.alloc (.cells #[.slice none 0 0, .int .i64 0] 24)).alloc (.map #[] 0) = W := ⟨_, rfl⟩
  have HST := Lib.hid (Head.start w W3 hW3)
  have hmm := @run_makeMap Try.prog
  clear hacts h0
  go_enter Try.func4, Try.ntmps4
  go_upto_block 0 with (fail)
  try rw [hW3]
  clear hW3 hmm
  go_cut [6] from 8 to 66 (fun x6 wx => ∃ (l : List Pc) (t : Int) (sent : List Pc) (left : Int → Int) (h : Int → Bool) (m c : Nat) (va : Option Addr) (vc : Nat) (ua : Option Addr) (uc : Nat), x6 = .slice ua sent.length uc ∧ sent.length ≤ 20 ∧ c ≤ 20 ∧ Head w l t sent left h m c (.slice va l.length vc) (.slice ua sent.length uc) wx)
  case first =>
    go_wp2_with fail
    go_loopw [6, 8, 9, 10, 11, 12, 32] (fun x6 _ _ _ _ _ x32 wr => ∃ (k : Nat) (l : List Pc) (t : Int) (sent : List Pc) (left : Int → Int) (h : Int → Bool) (m c : Nat) (va : Option Addr) (vc : Nat) (ua : Option Addr) (uc : Nat), k ≤ l0.length ∧ k ≤ 20 ∧ x32 = .int .i64 k ∧ x6 = .slice ua sent.length uc ∧ l.length ≤ k ∧ sent.length ≤ k ∧ c ≤ k ∧ Head w l t sent left h m c (.slice va l.length vc) (.slice ua sent.length uc) wr) (fun _ _ _ _ _ _ x32 _ => l0.length - (intOf x32).toNat)
    case atStart => exact ⟨0, [], 0, [], _, _, 0, 0, none, 0, none, 0, Nat.zero_le _, Nat.zero_le _, rfl, rfl, by simp, by simp, Nat.le_refl _, HST.out⟩
    case round =>
      clear HST
      obtain ⟨k, l, t, sent, left, h, m, c, va, vc, ua, uc, hk, hk20, rfl, rfl, hlk, hsk, hck, hst⟩ := hrel
      have HST := Lib.hid hst
      clear hst
      by_cases hlt : k < l0.length
      case neg =>
        obtain rfl : k = l0.length := by omega
        go_wp2_with fail
        go_meet
        exact ⟨l, t, sent, left, h, m, c, va, vc, ua, uc, rfl, by omega, by omega, HST.out⟩
      obtain ⟨b, off, rfl, hlc, hcap, hb, k0, k1, k2, k3, k4, k5⟩ := NRow.at (HL0.out.below HST.out.bel) hlt
      have kc1 : (0 : Int) ≤ k := by omega
      have kc3 : (k : Int) ≤ cap0 := by omega
      generalize l0[k] = x at *
      have hba := al wr (.cells #[.int .i64 x.n, .bool x.b, .int .i64 x.y, .int .i64 x.k, .int .i64 x.o, .bool x.s] 26)
      by_cases h20 : k = 20
      · subst h20
        have HE := Lib.hid (HST.out.mono hba)
        clear hba
        go_wp2_with fail
        go_meet
        exact ⟨l, t, sent, left, h, m, c, va, vc, ua, uc, rfl, by omega, by omega, HE.out⟩
      have hk19 : ¬ ((k : Int) ≥ 20) := by omega
      have hk21 : (k : Int) < 20 := by omega
      have hbx := Box.made wr [.int .i64 x.n, .bool x.b, .int .i64 x.y, .int .i64 x.k, .int .i64 x.o, .bool x.s] 26
      obtain ⟨W4, hW4⟩ : ∃ W, wr.alloc (.cells #[.int .i64 x.n, .bool x.b, .int .i64 x.y, .int .i64 x.k, .int .i64 x.o, .bool x.s] 26) = W := ⟨_, rfl⟩
      have HX9 : Hid (Box wr.heap.size [.int .i64 x.n, .bool x.b, .int .i64 x.y, .int .i64 x.k, .int .i64 x.o, .bool x.s] W4) := Lib.hid (hW4 ▸ hbx)
      have HZ4 : Hid (Below wr.heap.size wr W4) := Lib.hid (hW4 ▸ hba)
      have HH := Lib.hid (HST.out.mono HZ4.out)
      have hright := rightB_t.2 HST.out.once.right
      have hmany := HST.out.once.many
      have hpo := Post_any (w := W4) t x HH.out.row
      have hways := post_ways l t x
      unfold tv nv at hpo
      have HW4 := Lib.hid hW4
      clear hbx hba h20 hW4
      go_upto_region 8 with (fail)
      rw [HW4.out]
      clear HW4 k0 k1 k2 k3 k4 k5 hb
      rcases hways with ⟨hm, e1, e2, e3⟩ | ⟨_, _, hf, _, _, _⟩ | ⟨-, hm, -, -, e1, e2, e3⟩
      · have hm2 : mayB x = false := by
          rcases hm with hm | hm
          · rw [hright] at hm; cases hm
          · exact hm
        rw [e1, e2, e3] at hpo
        have HPO := Lib.hid hpo
        have hmy := fun W => may_any x W
        simp only [hm2] at hmy
        unfold nv at hmy
        have HMY := Lib.hid hmy
        clear hpo hmy hm hm2 e1 e2 e3 hright hmany
        obtain ⟨c0, c1⟩ := box2 HH.out.box
        have hs0 := HH.out.box.1
        obtain ⟨d0, d1, d2, d3, d4, d5⟩ := box6 HX9.out
        have hds := HX9.out.1
        go_wp2_with fail
        (with_reducible refine HPO.out.mono ?_)
        rintro e w5 ⟨v5, rfl, ho, _, hz⟩
        unfold tv
        obtain ⟨a5, n5, c5, rfl⟩ : ∃ a n c, v5 = .slice a n c := (by obtain ⟨a', c', e⟩ := ho.slice; exact ⟨a', _, c', e⟩)
        obtain ⟨W6, hW6⟩ : ∃ W, w5.alloc (.cells #[.slice a5 n5 c5, .int .i64 0] 24) = W := ⟨_, rfl⟩
        have hz6 : Below W4.heap.size W4 W6 := below_trans hz (hW6 ▸ al w5 _)
        have HX6 := Lib.hid (HX9.out.below hz6)
        have HH6 := Lib.hid (HH.out.mono hz6)
        have HW6 := Lib.hid hW6
        clear hz ho hz6 hW6 c0 c1 hs0 d0 d1 d2 d3 d4 d5 hds HPO HH HX9 HST
        go_upto_region 9 with (fail)
        rw [HW6.out]
        clear HW6
        obtain ⟨d0, d1, d2, d3, d4, d5⟩ := box6 HX6.out
        have hds := HX6.out.1
        go_wp2_with fail
        (with_reducible refine (HMY.out _).mono ?_)
        rintro e w7 ⟨rfl, hz⟩
        have HE := Lib.hid (HH6.out.mono hz)
        clear hz d0 d1 d2 d3 d4 d5 hds
        go_wp2_with fail
        go_roundw
        case rel => exact ⟨k + 1, l, t, sent, left, h, m, c, va, vc, ua, uc, by omega, by omega, by go_num, rfl, by omega, by omega, by omega, HE.out⟩
        case measure => simp [intOf]; omega
      · omega
      · rw [e1, e2, e3] at hpo
        have hmm := mayB_t.1 hm
        have HON := Lib.hid (HST.out.once.post (p := x) (by omega) (by omega) hmm)
        have HPO := Lib.hid hpo
        clear hpo hm hmm e1 e2 e3 hright
        have HMY := Lib.hid hmany
        have hsn : IntKind.i64.wrap ((sent.length : Int) + 1) = (sent.length : Int) + 1 := IntWalk.i64_in _ (by omega)
        have htn : (t + 1 != (sent.length : Int) + 1) = false := by
          have : t + 1 = (sent.length : Int) + 1 := by omega
          rw [this]
          simp
        have HIN : Hid (InI (t + 1)) := Lib.hid (in_key (by omega))
        have hfew := HST.out.few (t + 1)
        have hlw : IntKind.i64.wrap (left (t + 1) + 1) = left (t + 1) + 1 := IntWalk.i64_in _ (by omega)
        clear hmany
        obtain ⟨c0, c1⟩ := box2 HH.out.box
        have hs0 := HH.out.box.1
        obtain ⟨d0, d1, d2, d3, d4, d5⟩ := box6 HX9.out
        have hds := HX9.out.1
        go_wp2_with fail
        (with_reducible refine HPO.out.mono ?_)
        rintro e w5 ⟨v5, rfl, ho, hf, hz⟩
        unfold tv
        obtain ⟨a5, n5, c5, rfl⟩ : ∃ a n c, v5 = .slice a n c := (by obtain ⟨a', c', e⟩ := ho.slice; exact ⟨a', _, c', e⟩)
        obtain ⟨W6, hW6⟩ : ∃ W, w5.alloc (.cells #[.slice a5 n5 c5, .int .i64 (t + 1)] 24) = W := ⟨_, rfl⟩
        have hz6 : Below W4.heap.size W4 W6 := below_trans hz (hW6 ▸ al w5 _)
        have hx10 : Box w5.heap.size [.slice a5 n5 c5, .int .i64 (t + 1)] W6 := hW6 ▸ Box.made w5 [.slice a5 n5 c5, .int .i64 (t + 1)] 24
        have hx9 := HX9.out.below hz6
        have hr6 : NRow W6 (.slice a5 n5 c5) (post l t x) := ho.below (hW6 ▸ al w5 _)
        have hlt9 := HX9.out.1
        have hlt5 := hz.size
        have hwz := HH.out.map.lt
        have hz4 := HZ4.out.size
        have hx9' : Box wr.heap.size [.int .i64 (t + 1), .bool x.b, .int .i64 x.y, .int .i64 x.k, .int .i64 x.o, .bool x.s] _ := box_put hx9 0 (.int .i64 (t + 1)) (by simp)
        have hx10' := box_set_other (j := 0) hx10 (g := wr.heap.size) (by omega) (.int .i64 (t + 1))
        have hr6' := NRow.far (g := wr.heap.size) (j := 0) (u := .int .i64 (t + 1)) hr6 (fun a n c e _ => by have := hf a n c e; omega)
        have hz7 := below_set (b := wr.heap.size) (j := 0) (.int .i64 (t + 1)) (below_trans HZ4.out hz6) (Nat.le_refl _)
        have hgt10 : wr.heap.size < w5.heap.size := by omega
        have hf7 : Far wr.heap.size (.slice a5 n5 c5) := hf.mono hz4
        have hwn : w.heap.size + 1 < wr.heap.size := HST.out.map.lt
        obtain ⟨f0, f1, f2, f3, f4, f5⟩ := frz6 hx9
        obtain ⟨j0, j1, j2, j3, j4, j5⟩ := box6 hx9
        have hjs := hx9.1
        obtain ⟨i0, i1⟩ := box2 hx10
        have his := hx10.1
        have HQ9 := Lib.hid hx9'
        have HQ10 := Lib.hid hx10'
        have HQR := Lib.hid hr6'
        have HQZ := Lib.hid hz7
        have HQF := Lib.hid hf7
        have HW6 := Lib.hid hW6
        clear hz ho hf hz6 hW6 c0 c1 hs0 d0 d1 d2 d3 d4 d5 hds HPO HH HX9 hx10 hx9 hr6 hlt9 hlt5 hwz hz4 hx9' hx10' hr6' hz7 hf7 HZ4
        go_upto_region 9 with (fail)
        rw [HW6.out]
        clear HW6
        go_upto_region 15 with (fail)
        clear f0 f1 f2 f3 f4 f5 j0 j1 j2 j3 j4 j5 hjs i0 i1 his
        generalize W6.setCell ⟨wr.heap.size, 0, none⟩ (.int .i64 (t + 1)) = W7 at HQ9 HQ10 HQR HQZ
        generalize w5.heap.size = g10 at *
        have hg9 : ∃ g, wr.heap.size = g := ⟨_, rfl⟩
        refine wp_region_noPanic ?_
        refine wp_region_held_drew (S := fun W' => Box g10 [.slice a5 n5 c5, .int .i64 (t + 1)] W' ∧ Box wr.heap.size [.int .i64 (t + 1), .bool x.b, .int .i64 x.y, .int .i64 x.k, .int .i64 x.o, .bool x.s] W') (by kernel_rfl) ⟨HQ10.out.below (dr W7), HQ9.out.below (dr W7)⟩ (fun hHeld => ?_)
        try simp only [Act.put, List.setIfInBounds_toArray, List.set_cons_zero, List.set_cons_succ]
        refine takeH 0 57 (.agg #[.slice a5 n5 c5, .int .i64 (t + 1)]) calm_np rfl rfl (by kernel_rfl) (by kernel_rfl) (by kernel_rfl) (by rfl) (fun W' hSw => by obtain ⟨y0, y1⟩ := box2 hSw.1; have hsz := hSw.1.1; go_simp) hHeld ?_
        try simp only [Act.put, List.setIfInBounds_toArray, List.set_cons_zero, List.set_cons_succ]
        refine takeH 1 58 (.slice ua sent.length uc) calm_np rfl rfl (by kernel_rfl) (by kernel_rfl) (by kernel_rfl) (by rfl) (fun W' hSw => by go_simp) hHeld ?_
        try simp only [Act.put, List.setIfInBounds_toArray, List.set_cons_zero, List.set_cons_succ]
        refine takeH 2 59 (.agg #[.int .i64 (t + 1), .bool x.b, .int .i64 x.y, .int .i64 x.k, .int .i64 x.o, .bool x.s]) calm_np rfl rfl (by kernel_rfl) (by kernel_rfl) (by kernel_rfl) (by rfl) (fun W' hSw => by obtain ⟨y0, y1, y2, y3, y4, y5⟩ := box6 hSw.2; have hsz := hSw.2.1; go_simp) hHeld ?_
        try simp only [Act.put, List.setIfInBounds_toArray, List.set_cons_zero, List.set_cons_succ]
        have hD := below_trans HQZ.out (dr W7)
        have hR := HQR.out.below (dr W7)
        generalize W7.drew = WD at hHeld hD hR ⊢
        refine wpAnyH_ready (rs := [3]) (by kernel_rfl) (by simp) (AllReadyH.cons rfl (fun K hK => ?_) AllReadyH.nil)
        go_simp
        have hz := al WD (.cells #[.int .i64 (t + 1), .bool x.b, .int .i64 x.y, .int .i64 x.k, .int .i64 x.o, .bool x.s] 26)
        have hone : NRow (WD.alloc (.cells #[.int .i64 (t + 1), .bool x.b, .int .i64 x.y, .int .i64 x.k, .int .i64 x.o, .bool x.s] 26)) (.slice (some ⟨WD.heap.size, 0, none⟩) 1 1) [num x (t + 1)] := NRow.one WD (num x (t + 1))
        generalize WD.alloc (.cells #[.int .i64 (t + 1), .bool x.b, .int .i64 x.y, .int .i64 x.k, .int .i64 x.o, .bool x.s] 26) = WE at hz hone ⊢
        have hh : Box g10 [.slice a5 n5 c5, .int .i64 (t + 1)] WE ∧ Box wr.heap.size [.int .i64 (t + 1), .bool x.b, .int .i64 x.y, .int .i64 x.k, .int .i64 x.o, .bool x.s] WE := ⟨hHeld.1.below hz, hHeld.2.below hz⟩
        replace hD := below_trans hD hz
        replace hR := hR.below hz
        clear hz hHeld
        refine hK.out _ _ hh (fun hHeld => ?_)
        clear hK hh
        try simp only [Act.put, List.setIfInBounds_toArray, List.set_cons_zero, List.set_cons_succ]
        generalize WD.heap.size = gn at *
        have hown : OwnN (w.heap.size + 2) (.slice ua sent.length uc) sent WE := HST.out.own.below hD
        have hos : ∀ g, (Value.slice ua sent.length uc).ownBlock = some g → g < wr.heap.size ∧ w.heap.size + 2 ≤ g := fun g e => by have := World.ownsRow.lt HST.out.own g e; omega
        have hle : w.heap.size + 2 ≤ WE.heap.size := by have := hD.size; omega
        refine wpAnyH_ready (rs := [4]) (by kernel_rfl) (by simp) (AllReadyH.cons rfl (fun K hK => ?_) AllReadyH.nil)
        refine step_append_O (by rfl) 61 rfl _ _ rfl (w.heap.size + 2) _ sent rfl hown _ [num x (t + 1)] rfl hone (by omega) (by simp) hle (fun vq WF ho2 hb2 hg2 hl2 => ?_)
        have hh : Box g10 [.slice a5 n5 c5, .int .i64 (t + 1)] WF ∧ Box wr.heap.size [.int .i64 (t + 1), .bool x.b, .int .i64 x.y, .int .i64 x.k, .int .i64 x.o, .bool x.s] WF := ⟨Box.keptN hHeld.1 hg2 (fun e => by have := hos _ e; omega), Box.keptN hHeld.2 hg2 (fun e => by have := hos _ e; omega)⟩
        have hbn := Box.keptN (HST.out.box.below hD) hg2 (fun e => by have := hos _ e; omega)
        obtain ⟨aq, nq, cq, rfl⟩ : ∃ a n c, vq = .slice a n c := (by obtain ⟨a', c', e⟩ := ho2.row.slice; exact ⟨a', _, c', e⟩)
        have hnq : nq = (sent ++ [num x (t + 1)]).length := (NRow.cap ho2.row).1
        have HSD := Lib.hid (HST.out.stored hD hR HQF.out ho2 hg2 hl2 (y := t + 1) (q := left (t + 1) + 1) HIN.out (by omega) (by omega) HON.out)
        clear hHeld hown hle hone hR hD hg2 hl2 hb2 ho2
        refine hK.out _ _ hh (fun hHeld => ?_)
        clear hK hh
        try simp only [Act.put, List.setIfInBounds_toArray, List.set_cons_zero, List.set_cons_succ]
        refine wpAnyH_ready (rs := [5]) (by kernel_rfl) (by simp) (AllReadyH.cons rfl (fun K hK => ?_) AllReadyH.nil)
        obtain ⟨y0, y1⟩ := box2 hbn
        obtain ⟨z0, z1⟩ := frz2 hbn
        have hbs := hbn.1
        go_simp
        have hh : Box g10 [.slice a5 n5 c5, .int .i64 (t + 1)] ((WF.setCell ⟨w.heap.size, 0, none⟩ (.slice a5 n5 c5)).setCell ⟨w.heap.size, 1, none⟩ (.int .i64 (t + 1))) ∧ Box wr.heap.size [.int .i64 (t + 1), .bool x.b, .int .i64 x.y, .int .i64 x.k, .int .i64 x.o, .bool x.s] ((WF.setCell ⟨w.heap.size, 0, none⟩ (.slice a5 n5 c5)).setCell ⟨w.heap.size, 1, none⟩ (.int .i64 (t + 1))) := ⟨box_set_other (box_set_other hHeld.1 (by omega) _) (by omega) _, box_set_other (box_set_other hHeld.2 (by omega) _) (by omega) _⟩
        clear y0 y1 z0 z1 hbs hbn hHeld
        obtain ⟨hlk, W9, p1, h', m', hHE⟩ := HSD.out
        have HE := Lib.hid hHE
        clear HSD hHE
        generalize (WF.setCell ⟨w.heap.size, 0, none⟩ (.slice a5 n5 c5)).setCell ⟨w.heap.size, 1, none⟩ (.int .i64 (t + 1)) = WG at hh hlk p1 ⊢
        refine hK.out _ _ hh (fun hHeld => ?_)
        clear hK hh
        try simp only [Act.put, List.setIfInBounds_toArray, List.set_cons_zero, List.set_cons_succ]
        refine takeH 6 6 (.slice aq nq cq) calm_np rfl rfl (by kernel_rfl) (by kernel_rfl) (by kernel_rfl) (by rfl) (fun W' hSw => by go_simp) hHeld ?_
        try simp only [Act.put, List.setIfInBounds_toArray, List.set_cons_zero, List.set_cons_succ]
        refine wpAnyH_done (by kernel_rfl) ?_ _
        refine NoPanic.normal ?_
        clear hHeld
        have HNQ := Lib.hid hnq
        clear hnq
        go_wp2_with fail
        rw [HNQ.out]
        have hpl : (post l t x).length = l.length + 1 := by unfold post; simp
        have hn5 := (NRow.cap HE.out.row).1
        have HN5 := Lib.hid hn5
        go_roundw
        case rel => exact ⟨k + 1, post l t x, t + 1, sent ++ [num x (t + 1)], _, h', m', c + 1, a5, c5, aq, cq, by omega, by omega, by go_num, rfl, by omega, by simp; omega, by omega, by have hE := HE.out; rw [HNQ.out, HN5.out] at hE; exact hE⟩
        case measure => simp [intOf]; omega
  case rest =>
  obtain ⟨l, t, sent, left, h, m, c, va, vc, ua, uc, rfl, hs20, hc20, hst⟩ := hcut
  have HST := Lib.hid hst
  clear hst hcap0 HL0
  go_upto_block 2 with (fail)
  go_cut [] from 13 to 172 (fun wx => ∃ (l : List Pc) (left : Int → Int) (h : Int → Bool) (m c : Nat) (va : Option Addr) (vc : Nat), c ≤ 60 ∧ Head w l t sent left h m c (.slice va l.length vc) (.slice ua sent.length uc) wx)
  case first =>
    go_wp2_with fail
    go_loopw [13, 14, 15, 16, 17, 18, 19, 20, 21, 22, 23, 24, 69] (fun _ _ _ _ _ _ _ _ _ _ _ _ x69 wr => ∃ (k : Nat) (l : List Pc) (left : Int → Int) (h : Int → Bool) (m c : Nat) (va : Option Addr) (vc : Nat), k ≤ len ∧ k ≤ 40 ∧ x69 = .int .i64 k ∧ c ≤ 20 + k ∧ Head w l t sent left h m c (.slice va l.length vc) (.slice ua sent.length uc) wr) (fun _ _ _ _ _ _ _ _ _ _ _ _ x69 _ => len - (intOf x69).toNat)
    case atStart => exact ⟨0, l, left, h, m, c, va, vc, Nat.zero_le _, Nat.zero_le _, rfl, by omega, HST.out⟩
    case round =>
      clear HST
      obtain ⟨k, l, left, h, m, c, va, vc, hk, hk40, rfl, hck, hst⟩ := hrel
      have HST := Lib.hid hst
      clear hst
      by_cases hlt : k < len
      case neg =>
        obtain rfl : k = len := by omega
        go_wp2_with fail
        go_meet
        exact ⟨l, left, h, m, c, va, vc, by omega, HST.out⟩
      obtain ⟨b, off, rfl, hb, hac⟩ := HACT.out (by omega)
      obtain ⟨a, hab, k0⟩ := hac k hlt
      have e0 := (HST.out.bel.cell (p := ⟨b, off + k, none⟩) hb).trans k0
      have hbs : b < wr.heap.size := by have := HST.out.bel.size; omega
      have kc1 : (0 : Int) ≤ k := by omega
      have kc3 : (k : Int) ≤ capi := by omega
      clear k0 hac
      obtain ⟨c0, c1⟩ := box2 HST.out.box
      have hs0 := HST.out.box.1
      have hl64 := HST.out.once.right.1
      by_cases h40 : k = 40
      · subst h40
        go_wp2_with fail
        go_meet
        exact ⟨l, left, h, m, c, va, vc, by omega, HST.out⟩
      have hk41 : ¬ ((k : Int) ≥ 40) := by omega
      have hk42 : (k : Int) < 40 := by omega
      by_cases hl0 : l.length = 0
      · have hz0 : ((l.length : Int) == 0) = true := by simp [hl0]
        have HZ := Lib.hid hl0
        clear hl0
        go_wp2_with fail
        go_meet
        exact ⟨l, left, h, m, c, va, vc, by omega, HST.out⟩
      have hz0 : ((l.length : Int) == 0) = false := by simpa using (by omega : ¬ (l.length : Int) = 0)
      have hz1 : ¬ ((l.length : Int) = 0) := by omega
      obtain ⟨d, hd, hd1, hd2⟩ := div3 a hab
      obtain ⟨q, pl, hq, hq1, hq2, hpl, hpl2⟩ := place_any l.length (by omega) (by omega) d
      obtain ⟨q3, d3, hq3, hq3a, hq3b, hd3, hd30, hd32⟩ := mod3 a
      obtain ⟨bn, on, rfl, hlcn, hcapn, hbn, n0, n1, n2, n3, n4, n5⟩ := NRow.at HST.out.row hpl2
      have kp1 : (0 : Int) ≤ pl := by omega
      have kp2 : (pl : Int) < l.length := by omega
      have kp3 : (pl : Int) ≤ vc := by omega
      have HTK := Lib.hid (HST.out.once.taken hpl2)
      have HR := Lib.hid (rightB_t.2 HST.out.once.right)
      have HTA := Lib.hid (Take_yes t HST.out.row HR.out hpl2)
      have HTW := Lib.hid (fun (h : l.length ≠ 64) => Twice_yes t HST.out.row HR.out hpl2 h)
      have HTF := Lib.hid (fun (h : l.length = 64) => Twice_full t HST.out.row HR.out hpl2 h)
      have HLA := Lib.hid (Last_yes t HST.out.row HR.out hpl2)
      have HOT := Lib.hid (HST.out.once.take hpl2)
      have HOW := Lib.hid (fun (h : l.length < 64) => HST.out.once.twice hpl2 h)
      have HOL := Lib.hid (HST.out.once.last hpl2)
      unfold tv at HTA HTW HTF HLA
      have HKY : Hid (InI l[pl].n) := Lib.hid (in_key (by have h1 := HST.out.once.right.2.2 _ (List.getElem_mem hpl2); have h2 := HST.out.once.right.2.1; omega))
      have HLT := Lib.hid (show (twice l pl hpl2).length = l.length + 1 by unfold twice; simp)
      generalize hxe : l[pl] = x at *
      clear hxe
      have hfew := HST.out.few x.n
      have hdd : d3 = 0 ∨ d3 = 1 ∨ d3 = 2 := by omega
      clear hd30 hd32
      rcases hdd with rfl | rfl | rfl
      · obtain ⟨⟨hs, hse⟩, hn1, hn2, hl1⟩ := HTK.out
        obtain ⟨bs, os, rfl, hlcs, hcaps, hbss, hsix⟩ := NRow.at HST.out.own.row hs
        rw [hse, show (x.n - 1).toNat = x.n.toNat - 1 by omega] at hsix
        have HBS := Lib.hid hbss
        have HSN : Hid (∀ W', Below wr.heap.size wr W' → Six W' bs (os + (x.n.toNat - 1) * 6) x) := Lib.hid (fun W' hW => hsix.below hbss hW)
        have hn3 : ¬ (x.n < 1) := by omega
        have hn4 : ¬ (x.n > (sent.length : Int)) := by omega
        have hn5 : IntKind.i64.wrap (x.n - 1) = x.n - 1 := IntWalk.i64_in _ (by omega)
        have hn6 : (0 : Int) ≤ x.n - 1 := by omega
        have hn7 : x.n - 1 < (sent.length : Int) := by omega
        have hn8 : ¬ (left x.n < 1) := by omega
        have hlw : IntKind.i64.wrap (left x.n - 1) = left x.n - 1 := IntWalk.i64_in _ (by omega)
        clear hs hse hsix hbss
        go_wp2_with fail
        (with_reducible refine HTA.out.mono ?_)
        rintro e w5 ⟨v5, rfl, ho, hf, hz⟩
        unfold tv nv
        obtain ⟨a5, nv5, c5, rfl⟩ : ∃ a n c, v5 = .slice a n c := (by obtain ⟨a', c', e⟩ := ho.slice; exact ⟨a', _, c', e⟩)
        obtain ⟨W6, hW6⟩ : ∃ W, (w5.alloc (.cells #[.slice a5 nv5 c5, .int .i64 t] 24)).alloc (.cells #[.int .i64 x.n, .bool x.b, .int .i64 x.y, .int .i64 x.k, .int .i64 x.o, .bool x.s] 26) = W := ⟨_, rfl⟩
        obtain ⟨hx18, hx19, hb6⟩ := two_boxes_at w5 [.slice a5 nv5 c5, .int .i64 t] [.int .i64 x.n, .bool x.b, .int .i64 x.y, .int .i64 x.k, .int .i64 x.o, .bool x.s] _ _ W6 hW6
        have HZ6 : Hid (Below wr.heap.size wr W6) := Lib.hid (below_trans hz hb6)
        have HX18 := Lib.hid hx18
        have HX19 := Lib.hid hx19
        have HR6 : Hid (NRow W6 (.slice a5 nv5 c5) (rest l pl)) := Lib.hid (ho.below hb6)
        have HF := Lib.hid hf
        have HH6 := Lib.hid (HST.out.mono HZ6.out)
        clear hx18 hx19 hb6 ho hf hz c0 c1 hs0 HTA HTW HTF HLA HOW HOL e0 hbs n0 n1 n2 n3 n4 n5 hbn
        go_upto_region 32 with (fail)
        try rw [hW6]
        clear hW6
        refine wp_region_noPanic ?_
        refine wp_region_held_drew (S := fun W' => Below W6.heap.size W6 W') (by kernel_rfl) (dr W6) (fun hHeld => ?_)
        try simp only [Act.put, List.setIfInBounds_toArray, List.set_cons_zero, List.set_cons_succ]
        refine takeH 0 119 (.int .i64 0) calm_np rfl rfl (by kernel_rfl) (by kernel_rfl) (by kernel_rfl) (by rfl) (fun W' hSw => by go_simp) hHeld ?_
        try simp only [Act.put, List.setIfInBounds_toArray, List.set_cons_zero, List.set_cons_succ]
        refine takeH 1 120 (.bool false) calm_np rfl rfl (by kernel_rfl) (by kernel_rfl) (by kernel_rfl) (by rfl) (fun W' hSw => by go_simp) hHeld ?_
        try simp only [Act.put, List.setIfInBounds_toArray, List.set_cons_zero, List.set_cons_succ]
        refine takeH 2 121 (.bool false) calm_np rfl rfl (by kernel_rfl) (by kernel_rfl) (by kernel_rfl) (by rfl) (fun W' hSw => by go_simp) hHeld ?_
        try simp only [Act.put, List.setIfInBounds_toArray, List.set_cons_zero, List.set_cons_succ]
        refine takeH 3 122 (.int .i64 x.n) calm_np rfl rfl (by kernel_rfl) (by kernel_rfl) (by kernel_rfl) (by rfl) (fun W' hSw => by go_simp) hHeld ?_
        try simp only [Act.put, List.setIfInBounds_toArray, List.set_cons_zero, List.set_cons_succ]
        refine takeH 4 123 (.bool false) calm_np rfl rfl (by kernel_rfl) (by kernel_rfl) (by kernel_rfl) (by rfl) (fun W' hSw => by go_simp) hHeld ?_
        try simp only [Act.put, List.setIfInBounds_toArray, List.set_cons_zero, List.set_cons_succ]
        refine takeH 5 124 (.bool false) calm_np rfl rfl (by kernel_rfl) (by kernel_rfl) (by kernel_rfl) (by rfl) (fun W' hSw => by go_simp) hHeld ?_
        try simp only [Act.put, List.setIfInBounds_toArray, List.set_cons_zero, List.set_cons_succ]
        refine takeH 6 125 (.bool false) calm_np rfl rfl (by kernel_rfl) (by kernel_rfl) (by kernel_rfl) (by rfl) (fun W' hSw => by go_simp) hHeld ?_
        try simp only [Act.put, List.setIfInBounds_toArray, List.set_cons_zero, List.set_cons_succ]
        refine takeH 7 126 (.int .i64 x.n) calm_np rfl rfl (by kernel_rfl) (by kernel_rfl) (by kernel_rfl) (by rfl) (fun W' hSw => by go_simp) hHeld ?_
        try simp only [Act.put, List.setIfInBounds_toArray, List.set_cons_zero, List.set_cons_succ]
        refine takeH 8 127 (.slice (some ⟨bs, os, none⟩) sent.length uc) calm_np rfl rfl (by kernel_rfl) (by kernel_rfl) (by kernel_rfl) (by rfl) (fun W' hSw => by go_simp) hHeld ?_
        try simp only [Act.put, List.setIfInBounds_toArray, List.set_cons_zero, List.set_cons_succ]
        refine takeH 9 128 (.int .i64 sent.length) calm_np rfl rfl (by kernel_rfl) (by kernel_rfl) (by kernel_rfl) (by rfl) (fun W' hSw => by go_simp) hHeld ?_
        try simp only [Act.put, List.setIfInBounds_toArray, List.set_cons_zero, List.set_cons_succ]
        refine takeH 10 129 (.bool false) calm_np rfl rfl (by kernel_rfl) (by kernel_rfl) (by kernel_rfl) (by rfl) (fun W' hSw => by go_simp) hHeld ?_
        try simp only [Act.put, List.setIfInBounds_toArray, List.set_cons_zero, List.set_cons_succ]
        refine takeH 11 130 (.bool false) calm_np rfl rfl (by kernel_rfl) (by kernel_rfl) (by kernel_rfl) (by rfl) (fun W' hSw => by go_simp) hHeld ?_
        try simp only [Act.put, List.setIfInBounds_toArray, List.set_cons_zero, List.set_cons_succ]
        refine takeH 12 131 (.bool false) calm_np rfl rfl (by kernel_rfl) (by kernel_rfl) (by kernel_rfl) (by rfl) (fun W' hSw => by go_simp) hHeld ?_
        try simp only [Act.put, List.setIfInBounds_toArray, List.set_cons_zero, List.set_cons_succ]
        refine takeH 13 132 (.agg #[.int .i64 x.n, .bool x.b, .int .i64 x.y, .int .i64 x.k, .int .i64 x.o, .bool x.s]) calm_np rfl rfl (by kernel_rfl) (by kernel_rfl) (by kernel_rfl) (by rfl) (fun W' hSw => by have g0 := (show _ = some (Value.int .i64 x.n) from (HX19.out.below hSw).at 0 rfl); have g1 := (show _ = some (Value.bool x.b) from (HX19.out.below hSw).at 1 rfl); have g2 := (show _ = some (Value.int .i64 x.y) from (HX19.out.below hSw).at 2 rfl); have g3 := (show _ = some (Value.int .i64 x.k) from (HX19.out.below hSw).at 3 rfl); have g4 := (show _ = some (Value.int .i64 x.o) from (HX19.out.below hSw).at 4 rfl); have g5 := (show _ = some (Value.bool x.s) from (HX19.out.below hSw).at 5 rfl); have hsz := (HX19.out.below hSw).1; go_simp) hHeld ?_
        try simp only [Act.put, List.setIfInBounds_toArray, List.set_cons_zero, List.set_cons_succ]
        refine takeH 14 133 (.slice (some ⟨bs, os, none⟩) sent.length uc) calm_np rfl rfl (by kernel_rfl) (by kernel_rfl) (by kernel_rfl) (by rfl) (fun W' hSw => by go_simp) hHeld ?_
        try simp only [Act.put, List.setIfInBounds_toArray, List.set_cons_zero, List.set_cons_succ]
        refine takeH 15 134 (.int .i64 x.n) calm_np rfl rfl (by kernel_rfl) (by kernel_rfl) (by kernel_rfl) (by rfl) (fun W' hSw => by go_simp) hHeld ?_
        try simp only [Act.put, List.setIfInBounds_toArray, List.set_cons_zero, List.set_cons_succ]
        refine takeH 16 135 (.int .i64 (x.n - 1)) calm_np rfl rfl (by kernel_rfl) (by kernel_rfl) (by kernel_rfl) (by rfl) (fun W' hSw => by go_simp) hHeld ?_
        try simp only [Act.put, List.setIfInBounds_toArray, List.set_cons_zero, List.set_cons_succ]
        refine takeH 17 136 (.pointer (some ⟨bs, os + (x.n.toNat - 1) * 6, none⟩)) calm_np rfl rfl (by kernel_rfl) (by kernel_rfl) (by kernel_rfl) (by rfl) (fun W' hSw => by go_simp) hHeld ?_
        try simp only [Act.put, List.setIfInBounds_toArray, List.set_cons_zero, List.set_cons_succ]
        refine takeH 18 137 (.agg #[.int .i64 x.n, .bool x.b, .int .i64 x.y, .int .i64 x.k, .int .i64 x.o, .bool x.s]) calm_np rfl rfl (by kernel_rfl) (by kernel_rfl) (by kernel_rfl) (by rfl) (fun W' hSw => by obtain ⟨f0, f1, f2, f3, f4, f5⟩ := HSN.out _ (below_trans HZ6.out hSw); have hsl : bs < W'.heap.size := Nat.lt_of_lt_of_le HBS.out (below_trans HZ6.out hSw).size; go_simp) hHeld ?_
        try simp only [Act.put, List.setIfInBounds_toArray, List.set_cons_zero, List.set_cons_succ]
        refine takeH 19 138 (.bool false) calm_np rfl rfl (by kernel_rfl) (by kernel_rfl) (by kernel_rfl) (by rfl) (fun W' hSw => by have heq := fun w => neq_pc x x w; simp only [decide_true, Bool.not_true] at heq; go_simp) hHeld ?_
        try simp only [Act.put, List.setIfInBounds_toArray, List.set_cons_zero, List.set_cons_succ]
        refine takeH 20 139 (.bool false) calm_np rfl rfl (by kernel_rfl) (by kernel_rfl) (by kernel_rfl) (by rfl) (fun W' hSw => by go_simp) hHeld ?_
        try simp only [Act.put, List.setIfInBounds_toArray, List.set_cons_zero, List.set_cons_succ]
        refine takeH 21 140 (.bool false) calm_np rfl rfl (by kernel_rfl) (by kernel_rfl) (by kernel_rfl) (by rfl) (fun W' hSw => by go_simp) hHeld ?_
        try simp only [Act.put, List.setIfInBounds_toArray, List.set_cons_zero, List.set_cons_succ]
        refine takeH 22 141 (.map (some (w.heap.size + 1))) calm_np rfl rfl (by kernel_rfl) (by kernel_rfl) (by kernel_rfl) (by rfl) (fun W' hSw => by go_simp) hHeld ?_
        try simp only [Act.put, List.setIfInBounds_toArray, List.set_cons_zero, List.set_cons_succ]
        refine takeH 23 142 (.int .i64 x.n) calm_np rfl rfl (by kernel_rfl) (by kernel_rfl) (by kernel_rfl) (by rfl) (fun W' hSw => by go_simp) hHeld ?_
        try simp only [Act.put, List.setIfInBounds_toArray, List.set_cons_zero, List.set_cons_succ]
        refine takeH 24 143 (.int .i64 (left x.n)) calm_np rfl rfl (by kernel_rfl) (by kernel_rfl) (by kernel_rfl) (by rfl) (fun W' hSw => by have hl := (HH6.out.mono hSw).look HKY.out; go_simp) hHeld ?_
        try simp only [Act.put, List.setIfInBounds_toArray, List.set_cons_zero, List.set_cons_succ]
        refine takeH 25 144 (.bool false) calm_np rfl rfl (by kernel_rfl) (by kernel_rfl) (by kernel_rfl) (by rfl) (fun W' hSw => by go_simp) hHeld ?_
        try simp only [Act.put, List.setIfInBounds_toArray, List.set_cons_zero, List.set_cons_succ]
        refine takeH 26 145 (.bool false) calm_np rfl rfl (by kernel_rfl) (by kernel_rfl) (by kernel_rfl) (by rfl) (fun W' hSw => by go_simp) hHeld ?_
        try simp only [Act.put, List.setIfInBounds_toArray, List.set_cons_zero, List.set_cons_succ]
        refine wpAnyH_done (by kernel_rfl) ?_ _
        refine NoPanic.normal ?_
        have HH := Lib.hid hHeld
        clear hHeld
        generalize W6.drew = w7 at HH ⊢
        have hz7 := below_trans HZ6.out HH.out
        have hr6 := HR6.out.below HH.out
        have hx18 := HX18.out.below HH.out
        have hSD := HST.out.stored hz7 hr6 HF.out (HST.out.own.below hz7) ⟨rfl, rfl, rfl, Nat.le_refl _, fun _ _ _ => rfl⟩ (fun g e => .inl e) (y := x.n) (q := left x.n - 1) HKY.out (by omega) (by omega) HOT.out
        have hN5 := (NRow.cap hr6).1
        have hbn6 := HST.out.box.below hz7
        obtain ⟨y0, y1⟩ := box2 hbn6
        obtain ⟨z0, z1⟩ := frz2 hbn6
        have hys := hbn6.1
        obtain ⟨i0, i1⟩ := box2 hx18
        have his := hx18.1
        obtain ⟨hlk, W9, p1, h', m', hE⟩ := hSD
        have HE := Lib.hid hE
        have HN5 := Lib.hid hN5
        clear hE hN5 hbn6 hx18 hr6 hz7 HR6 HX18 HX19 HF HH6 HOT HST HH HZ6 HSN HBS HTK
        go_wp2_with fail
        go_roundw
        case rel => exact ⟨k + 1, rest l pl, _, h', m', c + 1, a5, c5, by omega, by omega, by go_num, by omega, by have hE := HE.out; rw [HN5.out] at hE; exact hE⟩
        case measure => simp [intOf]; omega
      · by_cases h64 : l.length = 64
        · have HTF2 := Lib.hid (HTF.out h64)
          have H64 := Lib.hid h64
          clear h64 HTF HTA HTW HLA HOT HOW HOL
          go_wp2_with fail
          (with_reducible refine HTF2.out.mono ?_)
          rintro e w5 ⟨v5, rfl, ho, hf, hz⟩
          unfold tv
          obtain ⟨a5, nv5, c5, rfl⟩ : ∃ a n c, v5 = .slice a n c := (by obtain ⟨a', c', e⟩ := ho.slice; exact ⟨a', _, c', e⟩)
          obtain ⟨W6, hW6⟩ : ∃ W, w5.alloc (.cells #[.slice a5 nv5 c5, .int .i64 0] 24) = W := ⟨_, rfl⟩
          have hz6 : Below wr.heap.size wr W6 := below_trans hz (hW6 ▸ al w5 _)
          have HE := Lib.hid (HST.out.mono hz6)
          have HW6 := Lib.hid hW6
          clear hz6 hz ho hf hW6 c0 c1 hs0 HTF2
          go_upto_region 38 with (fail)
          rw [HW6.out]
          clear HW6
          go_wp2_with fail
          go_roundw
          case rel => exact ⟨k + 1, l, left, h, m, c, _, vc, by omega, by omega, by go_num, by omega, HE.out⟩
          case measure => simp [intOf]; omega
        · have HTW2 := Lib.hid (HTW.out h64)
          have hlw : IntKind.i64.wrap (left x.n + 1) = left x.n + 1 := IntWalk.i64_in _ (by omega)
          have HON := Lib.hid (HOW.out (by omega))
          have HLT2 := Lib.hid h64
          clear h64 HTF HTA HTW HLA HOT HOW HOL
          go_wp2_with fail
          (with_reducible refine HTW2.out.mono ?_)
          rintro e w5 ⟨v5, rfl, ho, hf, hz⟩
          unfold tv
          obtain ⟨a5, nv5, c5, rfl⟩ : ∃ a n c, v5 = .slice a n c := (by obtain ⟨a', c', e⟩ := ho.slice; exact ⟨a', _, c', e⟩)
          obtain ⟨W6, hW6⟩ : ∃ W, w5.alloc (.cells #[.slice a5 nv5 c5, .int .i64 t] 24) = W := ⟨_, rfl⟩
          have hz6 : Below wr.heap.size wr W6 := below_trans hz (hW6 ▸ al w5 _)
          have hx21 : Box w5.heap.size [.slice a5 nv5 c5, .int .i64 t] W6 := hW6 ▸ Box.made w5 [.slice a5 nv5 c5, .int .i64 t] 24
          have hr6 : NRow W6 (.slice a5 nv5 c5) (twice l pl hpl2) := ho.below (hW6 ▸ al w5 _)
          have hSD := HST.out.stored hz6 hr6 hf (HST.out.own.below hz6) ⟨rfl, rfl, rfl, Nat.le_refl _, fun _ _ _ => rfl⟩ (fun g e => .inl e) (y := x.n) (q := left x.n + 1) HKY.out (by omega) (by omega) HON.out
          have hN5 := (NRow.cap hr6).1
          have hbn6 := HST.out.box.below hz6
          clear c0 c1 hs0
          obtain ⟨y0, y1⟩ := box2 hbn6
          obtain ⟨z0, z1⟩ := frz2 hbn6
          have hys := hbn6.1
          obtain ⟨i0, i1⟩ := box2 hx21
          have his := hx21.1
          obtain ⟨hlk, W9, p1, h', m', hE⟩ := hSD
          have HE := Lib.hid hE
          have HN5 := Lib.hid hN5
          clear hE hN5 hbn6 hx21 hr6 hz6 hz ho hf HTW2 HON HST
          go_upto_region 38 with (fail)
          try rw [hW6]
          clear hW6
          go_wp2_with fail
          go_roundw
          case rel => exact ⟨k + 1, twice l pl hpl2, _, h', m', c + 1, a5, c5, by omega, by omega, by go_num, by omega, by have hE := HE.out; rw [HN5.out] at hE; exact hE⟩
          case measure => simp [intOf]; omega
      · go_wp2_with fail
        (with_reducible refine HLA.out.mono ?_)
        rintro e w5 ⟨v5, rfl, ho, hf, hz⟩
        unfold tv
        obtain ⟨a5, nv5, c5, rfl⟩ : ∃ a n c, v5 = .slice a n c := (by obtain ⟨a', c', e⟩ := ho.slice; exact ⟨a', _, c', e⟩)
        obtain ⟨W6, hW6⟩ : ∃ W, w5.alloc (.cells #[.slice a5 nv5 c5, .int .i64 t] 24) = W := ⟨_, rfl⟩
        have hz6 : Below wr.heap.size wr W6 := below_trans hz (hW6 ▸ al w5 _)
        have hx23 : Box w5.heap.size [.slice a5 nv5 c5, .int .i64 t] W6 := hW6 ▸ Box.made w5 [.slice a5 nv5 c5, .int .i64 t] 24
        have hr6 : NRow W6 (.slice a5 nv5 c5) (last l pl hpl2) := ho.below (hW6 ▸ al w5 _)
        have hE := HST.out.turned hz6 hr6 hf HOL.out
        have hN5 := (NRow.cap hr6).1
        subst hN5
        have hbn6 := HST.out.box.below hz6
        clear c0 c1 hs0
        obtain ⟨y0, y1⟩ := box2 hbn6
        obtain ⟨z0, z1⟩ := frz2 hbn6
        have hys := hbn6.1
        obtain ⟨i0, i1⟩ := box2 hx23
        have his := hx23.1
        have HE := Lib.hid hE
        clear hE hbn6 hx23 hr6 hz6 hz ho hf HTA HTW HTF HLA HOT HOW HOL HST
        go_upto_region 27 with (fail)
        try rw [hW6]
        clear hW6
        go_wp2_with fail
        go_roundw
        case rel => exact ⟨k + 1, last l pl hpl2, left, h, m, c, a5, c5, by omega, by omega, by go_num, by omega, HE.out⟩
        case measure => simp [intOf]; omega
  case rest =>
  obtain ⟨l, left, h, m, c, va, vc, hc60, hst⟩ := hcut
  have HST := Lib.hid hst
  have hl64 := HST.out.once.right.1
  clear hst HACT
  rename World => wk
  obtain ⟨c0, c1⟩ := box2 HST.out.box
  have hs0 := HST.out.box.1
  go_upto_block 5 with (fail)
  clear c0 c1 hs0
  go_cut [] from 26 to 185 (fun wx => Box w.heap.size [.slice va l.length vc, .int .i64 t] wx ∧ NRow wx (.slice va l.length vc) l ∧ (∃ (h : Int → Bool) (m : Nat) (f : Int → Int), MapI wx (w.heap.size + 1) (c + l.length) f h m ∧ ∀ z, f z = 0) ∧ Below w.heap.size w wx)
  case first =>
    go_wp2_with fail
    go_loopw [26, 176] (fun _ x176 wr => ∃ (j : Nat) (h : Int → Bool) (m : Nat), j ≤ l.length ∧ x176 = .int .i64 j ∧ MapI wr (w.heap.size + 1) (c + j) (fun z => left z - cnt (l.take j) z) h m ∧ Box w.heap.size [.slice va l.length vc, .int .i64 t] wr ∧ NRow wr (.slice va l.length vc) l ∧ Below w.heap.size w wr) (fun _ x176 _ => l.length - (intOf x176).toNat)
    case atStart => exact ⟨0, h, m, Nat.zero_le _, rfl, by have hm := HST.out.map; simp only [List.take_zero, cnt_nil, Int.sub_zero]; exact hm, HST.out.box, HST.out.row, HST.out.bel⟩
    case round =>
      obtain ⟨j, hf, mf, hj, rfl, hm, hbx, hrw, hbl⟩ := hrel
      by_cases hlt : j < l.length
      case neg =>
        obtain rfl : j = l.length := by omega
        have HE := Lib.hid (And.intro hbx (And.intro hrw (And.intro hm hbl)))
        clear hbx hrw hm hbl
        go_wp2_with fail
        go_meet
        exact ⟨HE.out.1, HE.out.2.1, ⟨_, _, _, HE.out.2.2.1, fun z => by rw [List.take_length, HST.out.once.left]; omega⟩, HE.out.2.2.2⟩
      have HFR := Lib.hid HST.out.far
      obtain ⟨b, off, rfl, hlc, hcap, hb, k0, k1, k2, k3, k4, k5⟩ := NRow.at hrw hlt
      have kc1 : (0 : Int) ≤ j := by omega
      have kc3 : (j : Int) ≤ vc := by omega
      have hky : InI l[j].n := in_key (by have h1 := HST.out.once.right.2.2 _ (List.getElem_mem hlt); have h2 := HST.out.once.right.2.1; omega)
      have hfw := HST.out.few l[j].n
      have hct := cnt_le (l.take j) l[j].n
      have hctl : ((l.take j).length : Int) ≤ 64 := by rw [List.length_take]; omega
      have hfun : (fun z => if z = l[j].n then left l[j].n - cnt (l.take j) l[j].n - 1 else left z - cnt (l.take j) z) = fun z => left z - cnt (l.take (j + 1)) z := funext fun z => by
        rw [cnt_take hlt]
        by_cases e : z = l[j].n
        · subst e; rw [if_pos rfl, if_pos rfl]; omega
        · rw [if_neg e, if_neg e]; omega
      have hba := al wr (.cells #[.int .i64 l[j].n, .bool l[j].b, .int .i64 l[j].y, .int .i64 l[j].k, .int .i64 l[j].o, .bool l[j].s] 26)
      have hbx9 := Box.made wr [.int .i64 l[j].n, .bool l[j].b, .int .i64 l[j].y, .int .i64 l[j].k, .int .i64 l[j].o, .bool l[j].s] 26
      generalize l[j] = x at *
      generalize hq : left x.n - cnt (l.take j) x.n = q at *
      obtain ⟨W4, hW4⟩ : ∃ W, wr.alloc (.cells #[.int .i64 x.n, .bool x.b, .int .i64 x.y, .int .i64 x.k, .int .i64 x.o, .bool x.s] 26) = W := ⟨_, rfl⟩
      have hba4 : Below wr.heap.size wr W4 := hW4 ▸ hba
      have hx4 : Box wr.heap.size [.int .i64 x.n, .bool x.b, .int .i64 x.y, .int .i64 x.k, .int .i64 x.o, .bool x.s] W4 := hW4 ▸ hbx9
      have hm4 := hm.below hba4
      have hlk := hm4.look Try.underlying3 Try.underlying41 hky
      have hlk2 : (Instr.lookup 41 (.map (some (w.heap.size + 1))) (.int .i64 x.n) false).run Try.prog W4 = .ok (.int .i64 q) W4 := by rw [← hq]; exact hlk
      obtain ⟨W5, p1, ⟨h', m', hm5⟩, hg5, hz5⟩ := Head.less hm4 (by omega) hky (q := q - 1) (by omega)
      have hw : IntKind.i64.wrap (q - 1) = q - 1 := IntWalk.i64_in _ (by omega)
      have HM5 : Hid (MapI W5 (w.heap.size + 1) (c + (j + 1)) (fun z => left z - cnt (l.take (j + 1)) z) h' m') := Lib.hid (by rw [← hfun]; exact hm5)
      have HX5 := Lib.hid (Box.keptN (hbx.below hba4) hg5 (by simp))
      have HR5 := Lib.hid (row_kept (hrw.below hba4) hg5 (fun a n c e _ e2 => by have := HFR.out a n c e; have := Option.some.inj e2; omega))
      have HB5 := Lib.hid ((below_trans hbl hba4).grown hg5 (below_trans hbl hba4).size (fun i hi => by cases hi; omega))
      have HW4 := Lib.hid hW4
      clear hba hbx9 hba4 hm4 hlk hm5 hg5 hz5 hbx hrw hbl hm hfun hct hctl hfw hky hq hW4
      go_upto_region 47 with (fail)
      rw [HW4.out]
      clear HW4 k0 k1 k2 k3 k4 k5 hb
      obtain ⟨d0, d1, d2, d3, d4, d5⟩ := box6 hx4
      have hds := hx4.1
      clear hx4
      go_wp2_with fail
      go_roundw
      case rel => exact ⟨j + 1, h', m', by omega, by go_num, HM5.out, HX5.out, HR5.out, HB5.out⟩
      case measure => simp [intOf]; omega
  case rest =>
  obtain ⟨hbx, hrw, ⟨hf, mf, f, hm, hzf⟩, hbl⟩ := hcut
  rename World => wx
  have HRIGHT := Lib.hid (rightB_t.2 HST.out.once.right)
  have HFR : Hid (∀ a n k, Value.slice va l.length vc = .slice (some a) n k → 0 < l.length → a.block < wx.heap.size) := Lib.hid (fun a n k e h0 => by
    obtain ⟨b, off, e2, _, _, hb, _⟩ := NRow.at hrw h0
    subst e2
    cases e
    exact hb)
  have hlo : w.heap.size + 1 < wx.heap.size := hm.lt
  obtain ⟨W8, hr1, hrg, hg8, hz8⟩ := hm.range Try.underlying3 Try.underlying41
  have HRG := Lib.hid hrg
  have HX := Lib.hid (Box.keptN hbx hg8 (by simp))
  have HRW := Lib.hid (row_kept hrw hg8 (fun a n c e _ e2 => by cases e2))
  have HBL := Lib.hid (hbl.grown hg8 hbl.size (fun i hi => by cases hi))
  have HZF := Lib.hid hzf
  clear hrg hg8 hz8 hbx hrw hbl hm hzf HST
  go_upto_block 7 with (fail)
  clear hr1
  generalize wx.heap.size = r at *
  go_wp2_with fail
  go_loopw [28] (fun _ wy => ∃ (lf : Int → Bool) (cn : Nat), RangeI wy (w.heap.size + 1) r (c + l.length) f hf lf cn ∧ Box w.heap.size [.slice va l.length vc, .int .i64 t] wy ∧ NRow wy (.slice va l.length vc) l ∧ Below w.heap.size w wy) (fun _ wy => wy.rangeLeft (w.heap.size + 1) r)
  case atStart => exact ⟨_, _, HRG.out, HX.out, HRW.out, HBL.out⟩
  case round =>
    rename World => wy
    obtain ⟨lf, cn, hrg, hbx, hrw, hbl⟩ := hrel
    clear HRG HX HRW HBL
    have HX := Lib.hid hbx
    have HRW := Lib.hid hrw
    have HBL := Lib.hid hbl
    have HRE := Lib.hid hrg.left_eq
    clear hbx hrw hbl
    rcases hrg.next Try.underlying3 0 with ⟨h0, hl, hrun⟩ | ⟨yy, W9, cnt', hyy, hly, hrun, hrg', hlt', hg9, hz9, hen⟩
    · clear hl h0 hrg
      go_upto_region 54 with (fail)
      clear hrun
      go_wp2_with fail
      (with_reducible refine (alive_any _).mono ?_)
      rintro e w9 ⟨rfl, hz⟩
      have hx9 := HX.out.below hz
      have hri := Right_any t (HRW.out.below hz)
      rw [HRIGHT.out] at hri
      unfold tv at hri
      have HRI := Lib.hid hri
      have HB9 := Lib.hid (below_trans HBL.out hz)
      obtain ⟨c0, c1⟩ := box2 hx9
      have hs0 := hx9.1
      clear hz hx9 hri
      go_wp2_with fail
      (with_reducible refine HRI.out.mono ?_)
      rintro e w10 ⟨rfl, hz⟩
      have HE := Lib.hid (below_trans HB9.out hz)
      clear hz c0 c1 hs0
      go_wp2_with fail
      go_ret
      exact ⟨rfl, HE.out⟩
    · have hf0 := HZF.out yy
      have hrun2 : (Instr.next (.pointer (some ⟨r, 0, none⟩)) false 0).run Try.prog wy = .ok (.tuple #[.bool true, .int .i64 yy, .int .i64 0]) W9 := by have h1 := hrun; rw [hf0] at h1; exact h1
      have hen2 : (Instr.entry (.pointer (some ⟨r, 0, none⟩))).run Try.prog W9 = .ok (.tuple #[.int .i64 yy, .int .i64 0]) W9 := by have h1 := hen; rw [hf0] at h1; exact h1
      have HRG := Lib.hid hrg'
      have HRE9 := Lib.hid hrg'.left_eq
      have HX9 := Lib.hid (Box.keptN HX.out hg9 (fun e => by have := Option.some.inj e; omega))
      have HR9 := Lib.hid (row_kept HRW.out hg9 (fun a n k e h0 e2 => by have := HFR.out a n k e h0; have := Option.some.inj e2; omega))
      have HB9 := Lib.hid (HBL.out.grown hg9 HBL.out.size (fun i hi => by cases hi; omega))
      clear hrun hen hf0 hrg hrg' hly hg9 hz9
      go_wp2_with fail
      go_roundw
      case rel => exact ⟨_, cnt', HRG.out, HX9.out, HR9.out, HB9.out⟩
      case measure => rw [HRE9.out, HRE.out]; omega

set_option maxRecDepth 100000 in
set_option maxHeartbeats 4000000 in
theorem lifted (os : Os) (started : os.Started) (H : Type) (enc : TypeId × Value → H) :
    ReturnsInHanded {} Try.checked os 4 .any (Rows.netOnceSpec.pre6 enc Try.prog Try.f4 Rows.netOnceRow.domain false) (Rows.netOnceSpec.post enc Try.prog Try.f4 false true false false) := by
  refine returnsInHanded_of_change (C := Try.checked) own started (by kernel_rfl) Try.func4
    (ChangeSpec.witness6 (enc := enc) (C := Try.checked) false ⟨#[], #[.slice none 0 0, .slice none 0 0], []⟩ 8 (by kernel_rfl) (by kernel_rfl) (by kernel_rfl) (by kernel_rfl)) ?_
  intro W base args ds gs before hval0 hW hcnd _
  have hval : ∀ (j : Nat) t v, Try.f4.params[j]? = some t → args[j]? = some v → Value.okWide Try.prog W .any base t v := hval0
  have hW' := hW
  obtain ⟨p, q, hA0, hV, rfl, hfz, hnd⟩ := hW
  have hA : DataW.TrodAll enc Try.prog W 0 (fun _ => true) true Try.f4.params.toList args.toList ds p := hA0
  rw [Try.params4] at hA hval
  obtain ⟨v0, vs0, d0, ds0, p0, q0, hargs, rfl, rfl, h0, r0⟩ := trodAll_cons hA
  obtain ⟨v1, vs1, d1, ds1, p1, q1, rfl, rfl, rfl, h1, r1⟩ := trodAll_cons r0
  obtain ⟨rfl, rfl, rfl⟩ := trodAll_nil r1
  obtain rfl : args = #[v0, v1] := by cases args; simp_all
  obtain ⟨rfl, rfl⟩ := trodVars_none hV
  have k0 := h0
  have lt0 : ∀ x ∈ p0, x.block < W.heap.size := by obtain ⟨m, hm⟩ := k0; exact DataW.trod_lt m _ _ _ hm
  obtain ⟨fuel0, hf0⟩ := h0
  obtain ⟨aa0, ll0, cc0, rfl⟩ := okWide_slice Try.underlying22 (hval 0 22 v0 rfl rfl)
  have w0 := argN_of (v := .slice aa0 ll0 cc0) hf0
  have k1 := h1
  have lt1 : ∀ x ∈ p1, x.block < W.heap.size := by obtain ⟨m, hm⟩ := k1; exact DataW.trod_lt m _ _ _ hm
  obtain ⟨fuel1, hf1⟩ := h1
  obtain ⟨aa1, ll1, cc1, rfl⟩ := okWide_slice Try.underlying40 (hval 1 40 v1 rfl rfl)
  have w1 := argI_of (v := .slice aa1 ll1 cc1) hf1
  clear hA0 hval0
  refine (walk0 (.slice aa0 ll0 cc0) (.slice aa1 ll1 cc1) W w0 w1).mono fun e W' ⟨he, bel⟩ => ?_
  subst he
  exact ⟨_, rfl, _, _, _, [], _, [], hW', trodAll_mk1 (shut_bool Try.underlying4 _), (trodAll_cons_mk (Below.trod laidOut (by kernel_rfl) (of_decide_eq_true (by kernel_rfl)) k0 bel lt0) (trodAll_cons_mk (Below.trod laidOut (by kernel_rfl) (of_decide_eq_true (by kernel_rfl)) k1 bel lt1) trodAll_mk0)), rfl, bel.frame _, fun h => by cases h⟩

theorem over : Rows.netOnceRow.holds Try.pinned (OpenSpec.ofChange Rows.netOnceSpec) :=
  OpenClaim.holds_of_wide 4 Try.f4 rfl rfl rfl rfl rfl rfl rfl ⟨rfl, rfl, rfl, rfl, rfl⟩ rfl rfl rfl rfl rfl (by kernel_rfl) Try.func4 (by kernel_rfl)
    (of_decide_eq_true (by kernel_rfl)) (by unfold Func.isWrapper; first | (rw [if_pos (by decide +kernel)]; kernel_rfl) | (rw [if_neg (by decide +kernel)]; exact ⟨rfl, rfl⟩))
    (fun os started H enc _ => lifted os started H enc)

theorem proved : Rows.NetOnceSaid := over
#print axioms proved
end Go.Proofs.Ytkfjhfneagjejaa.netOnce
