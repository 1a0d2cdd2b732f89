/-
  Proved: for any waits and number the law QueueOrders returns true: what is pushed one by one, and popped one by one, is what is sorted, in whatever order all were pushed. No condition.
-/
import Derived.Test.YtdgenemgegpkdaaRows
import Derived.Test.YtdgenemgegpkdaaQPopOwn
namespace Go.Proofs.Ytdgenemgegpkdaa.queueOrders
open Go.ChangeShapes Go.WideShapes Go.ChangeAt Go.RowKit Go.Lib Go.Sort Go.Proofs.Ytdgenemgegpkdaa.Queue
open Go.ChangeMaps (open_string shut_string)
set_option linter.unusedVariables false

theorem own : ownKnob Try.prog.godebug = none := by kernel_rfl
theorem laidOut : laidOutB Try.prog = true := by kernel_rfl

set_option maxRecDepth 100000 in
set_option maxHeartbeats 8000000 in
theorem walk0 (v : Value) (bi : Int) (hb0 : -9223372036854775808 ≤ bi) (hb1 : bi ≤ 9223372036854775807) (w : World) (hv : ArgQ w v) :
    Calls Try.prog 5 #[v, .int .i64 bi] w (BoolB true w) := by
  obtain ⟨l0, h0⟩ := hv
  obtain ⟨a, cap, rfl⟩ := h0.slice
  obtain ⟨n, hn, hnl, hn30⟩ : ∃ n : Nat, min (l0.length : Int) 30 = n ∧ n ≤ l0.length ∧ n ≤ 30 := ⟨min l0.length 30, by omega, by omega, by omega⟩
  obtain ⟨l, hl⟩ : ∃ l, l0.take n = l := ⟨_, rfl⟩
  have hq : QRow w (.slice a n cap) l := hl ▸ h0.take hnl
  have hln : l.length = n := by rw [← hl, List.length_take]; omega
  obtain ⟨hlc, hcap⟩ : l0.length ≤ cap ∧ cap ≤ 9223372036854775807 := by obtain ⟨_, _, e, h1, h2, _⟩ := h0; cases e; exact ⟨h1, h2⟩
  clear h0
  clear hl
  generalize l0.length = len at *
  have HQ := Lib.hid hq
  have HN := Lib.hid hln
  have hc : (30 < len ∧ n = 30) ∨ (len ≤ 30 ∧ n = len) := by omega
  have hnc : n ≤ cap := by omega
  obtain ⟨S, j, hso, hJ⟩ := sorts l (by omega)
  have HSR := Lib.hid hso
  have HCJ := Lib.hid hJ
  clear hq hln hso hJ hn
  go_enter Try.func5, Try.ntmps5
  go_upto_region 1 with fail
  go_cut [0] from 16 to 20 (fun s W => s = .slice a n cap ∧ w = W)
  case first =>
    rcases hc with ⟨hc, rfl⟩ | ⟨hc, rfl⟩
    all_goals (go_wp2_with fail; go_meet; refine ⟨?_, rfl⟩; congr 1; omega)
  case rest =>
    obtain ⟨rfl, rfl⟩ := hcut
    clear hc hlc hnl
    by_cases hn0 : n = 0
    · subst hn0
      go_wp2_with (go_at_call 14; (with_reducible refine (alive_any _).mono ?_); rintro e w1 ⟨rfl, hz⟩; have HB1 := Lib.hid hz; clear hz)
      go_ret
      exact ⟨rfl, HB1.out⟩
    have hn0' : ((n : Int) == 0) = false := beq_eq_false_iff_ne.2 (by omega)
    have hn1 : 1 ≤ n := by omega
    go_upto_region 5 with (go_at_call 9; (with_reducible refine (HSR.out _ _ HQ.out).mono ?_); rintro e w1 ⟨v1, rfl, q1, b1⟩; have HB1 := Lib.hid b1; have HQ1 := Lib.hid (HQ.out.below b1); have HS1 := Lib.hid q1; clear q1 b1)
    obtain ⟨t1, ht1⟩ : ∃ t : Int, bi.tmod n = t := ⟨_, rfl⟩
    have ht2 : -30 < t1 ∧ t1 < 30 ∧ -(n : Int) < t1 ∧ t1 < n := by
      have h1 := Int.tmod_lt_of_pos bi (show (0 : Int) < n by omega)
      have h2 := Int.tmod_lt_of_pos (-bi) (show (0 : Int) < n by omega)
      rw [Int.neg_tmod] at h2
      omega
    obtain ⟨k, hk⟩ : ∃ k : Nat, (t1 + n).tmod n = k := ⟨((t1 + n).tmod n).toNat, by have := Int.tmod_nonneg (n : Int) (show 0 ≤ t1 + n by omega); omega⟩
    have hkn : k < n := by have := Int.tmod_lt_of_pos (t1 + n) (show (0 : Int) < n by omega); omega
    go_upto_region 6 with fail
    try simp only [ht1, hk]
    clear ht1 ht2 hk
    have hq1 := HQ1.out
    rw [← HN.out] at hq1
    obtain ⟨b, off, rfl, -⟩ := hq1.at (q := 0) (by rw [HN.out]; omega)
    have hck : (cap = k) = False := eq_false (by omega)
    have hk0 : (0 : Int) ≤ (k : Int) := by omega
    have hk1 : (k : Int) ≤ (n : Int) := by omega
    have hk2 : (k : Int) ≤ (cap : Int) := by omega
    have HD : Hid ((l.drop k).length = n - k) := Lib.hid (by rw [List.length_drop, HN.out])
    have HTK : Hid ((l.take k).length = k) := Lib.hid (by rw [List.length_take, HN.out]; omega)
    have HDR : Hid (∀ W, Below w1.heap.size w1 W → QRow W (.slice (some ⟨b, off + k * 3, none⟩) (n - k) (cap - k)) (l.drop k)) := Lib.hid (fun W hb => by
      have d := (hq1.below hb).drop (n := k) (by rw [HN.out]; omega)
      rwa [HD.out] at d)
    have HTR : Hid (∀ W, Below w1.heap.size w1 W → QRow W (.slice (some ⟨b, off, none⟩) k cap) (l.take k)) := Lib.hid (fun W hb => (hq1.below hb).take (by rw [HN.out]; omega))
    have HTP := Lib.hid (turn_perm l k)
    have HRL : Hid ((l.drop k ++ l.take k).length = n) := Lib.hid (by rw [List.length_append, HD.out, HTK.out]; omega)
    clear hq1
    go_upto_region 7 with fail
    refine wp_region_noPanic ?_
    refine wp_region_held_drew (S := fun _ => True) (by kernel_rfl) trivial (fun hHeld => ?_)
    have HZ0 := Lib.hid (dr w1)
    generalize w1.drew = W0 at *
    refine takeW 1 41 (.slice (some ⟨b, off, none⟩) n cap) (fun _ _ _ _ _ h => h) rfl rfl (by kernel_rfl) (by kernel_rfl) (by kernel_rfl) (by rfl) (fun W' hSw => by (try dsimp only at hSw); go_simp) trivial ?_
    try simp only [Act.put, List.setIfInBounds_toArray, List.set_cons_zero, List.set_cons_succ]
    refine takeW 2 42 (.int .i64 k) (fun _ _ _ _ _ h => h) rfl rfl (by kernel_rfl) (by kernel_rfl) (by kernel_rfl) (by rfl) (fun W' hSw => by (try dsimp only at hSw); go_simp) trivial ?_
    try simp only [Act.put, List.setIfInBounds_toArray, List.set_cons_zero, List.set_cons_succ]
    refine takeW 3 43 (.slice (some ⟨b, off + k * 3, none⟩) (n - k) (cap - k)) (fun _ _ _ _ _ h => h) rfl rfl (by kernel_rfl) (by kernel_rfl) (by kernel_rfl) (by rfl) (fun W' hSw => by (try dsimp only at hSw); go_simp) trivial ?_
    try simp only [Act.put, List.setIfInBounds_toArray, List.set_cons_zero, List.set_cons_succ]
    refine takeW 5 45 (.slice (some ⟨b, off, none⟩) n cap) (fun _ _ _ _ _ h => h) rfl rfl (by kernel_rfl) (by kernel_rfl) (by kernel_rfl) (by rfl) (fun W' hSw => by (try dsimp only at hSw); go_simp) trivial ?_
    try simp only [Act.put, List.setIfInBounds_toArray, List.set_cons_zero, List.set_cons_succ]
    refine takeW 6 46 (.int .i64 k) (fun _ _ _ _ _ h => h) rfl rfl (by kernel_rfl) (by kernel_rfl) (by kernel_rfl) (by rfl) (fun W' hSw => by (try dsimp only at hSw); go_simp) trivial ?_
    try simp only [Act.put, List.setIfInBounds_toArray, List.set_cons_zero, List.set_cons_succ]
    refine takeW 7 47 (.slice (some ⟨b, off, none⟩) k cap) (fun _ _ _ _ _ h => h) rfl rfl (by kernel_rfl) (by kernel_rfl) (by kernel_rfl) (by rfl) (fun W' hSw => by (try dsimp only at hSw); go_simp) trivial ?_
    try simp only [Act.put, List.setIfInBounds_toArray, List.set_cons_zero, List.set_cons_succ]
    refine takeW 10 50 (.int .i64 0) (fun _ _ _ _ _ h => h) rfl rfl (by kernel_rfl) (by kernel_rfl) (by kernel_rfl) (by rfl) (fun W' hSw => by (try dsimp only at hSw); go_simp) trivial ?_
    try simp only [Act.put, List.setIfInBounds_toArray, List.set_cons_zero, List.set_cons_succ]
    refine wpAnyH_ready (rs := [0]) (by kernel_rfl) (by simp) (AllReadyH.cons rfl (fun K hK => ?_) AllReadyH.nil)
    go_simp
    have HA1 := Lib.hid (al W0 (.cells #[] 24))
    have HZ1 := Lib.hid (below_trans HZ0.out HA1.out)
    refine hK.out _ _ trivial (fun hHeld => ?_)
    clear hK
    try simp only [Act.put, List.setIfInBounds_toArray, List.set_cons_zero, List.set_cons_succ]
    clear HA1
    generalize W0.alloc (.cells #[] 24) = W1 at *
    refine wpAnyH_ready (rs := [4]) (by kernel_rfl) (by simp) (AllReadyH.cons rfl (fun K hK => ?_) AllReadyH.nil)
    refine step_first (by rfl) 44 rfl _ _ rfl _ rfl _ (n - k) (cap - k) rfl (l.drop k) HD.out (by omega) (HDR.out _ HZ1.out) (fun v4 W4 ho hb => ?_)
    obtain ⟨a4, c4, e4⟩ := ho.slice
    rw [HD.out] at e4
    subst e4
    have HZ4 := Lib.hid (below_trans HZ1.out hb)
    have HO4 := Lib.hid ho
    have HC4 := Lib.hid hb
    clear ho hb
    refine hK.out _ _ trivial (fun hHeld => ?_)
    clear hK
    try simp only [Act.put, List.setIfInBounds_toArray, List.set_cons_zero, List.set_cons_succ]
    refine wpAnyH_ready (rs := [8]) (by kernel_rfl) (by simp) (AllReadyH.cons rfl (fun K hK => ?_) AllReadyH.nil)
    refine step_some (by rfl) 48 rfl _ _ rfl W1.heap.size _ (l.drop k) rfl HO4.out (by rw [HD.out]; omega) _ k cap rfl (l.take k) HTK.out (by rw [HD.out]; omega) (by omega) (HTR.out _ HZ4.out) (by have := HC4.out.size; omega) (fun v8 W8 hr hb => ?_)
    obtain ⟨a8, c8, e8⟩ := hr.slice
    rw [HRL.out] at e8
    subst e8
    have HZ8 := Lib.hid (HZ4.out.trans (hb.mono HZ1.out.size))
    have HR8 := Lib.hid hr
    clear hr hb
    refine hK.out _ _ trivial (fun hHeld => ?_)
    clear hK
    try simp only [Act.put, List.setIfInBounds_toArray, List.set_cons_zero, List.set_cons_succ]
    refine takeW 9 49 (.int .i64 n) (fun _ _ _ _ _ h => h) rfl rfl (by kernel_rfl) (by kernel_rfl) (by kernel_rfl) (by rfl) (fun W' hSw => by (try dsimp only at hSw); go_simp) trivial ?_
    try simp only [Act.put, List.setIfInBounds_toArray, List.set_cons_zero, List.set_cons_succ]
    refine wpAnyH_done (by kernel_rfl) ?_ _
    refine NoPanic.normal ?_
    have HB8 := Lib.hid (below_trans HB1.out HZ8.out)
    have HS8 := Lib.hid (HS1.out.below HZ8.out)
    clear HZ0 HZ1 HZ4 HZ8 HO4 HC4 HDR HTR HD HTK HB1 HS1 HQ1 HQ HSR
    generalize l.drop k ++ l.take k = r at *
    go_wp2_with fail
    go_loopw [7, 50] (fun xh xi W => ∃ (q : Nat) (Hq : List Wt) (ah : Option Addr) (ch : Nat), xi = .int .i64 q ∧ q ≤ n ∧ xh = .slice ah q ch ∧ QRow W (.slice ah q ch) Hq ∧ rightB Hq = true ∧ Hq.length = q ∧ sortL Hq = sortL (r.take q) ∧ (∀ z ∈ r.take q, mayB z = true) ∧ Below W8.heap.size W8 W) (fun _ xi _ => n - (Go.RowKit.intOf xi).toNat)
    case atStart => exact ⟨0, [], none, 0, rfl, Nat.zero_le _, rfl, nil_row _, rightB_nil, rfl, by simp, by simp, Below.refl _ _⟩
    case round =>
      obtain ⟨q, Hq, ah, ch, rfl, hqn, rfl, hh, hrq, hql, hqs, hqm, hbw⟩ := hrel
      have HH := Lib.hid hh
      have HRQ := Lib.hid hrq
      have HQS := Lib.hid hqs
      have HQM := Lib.hid hqm
      have HBW := Lib.hid hbw
      have HQL := Lib.hid hql
      clear hh hrq hqs hqm hbw
      generalize wr = wx at *
      by_cases hlt : q < n
      · have hqr : q < r.length := by rw [HRL.out]; exact hlt
        have hr8 := HR8.out.below HBW.out
        rw [← HRL.out] at hr8
        obtain ⟨br, offr, rfl, hlc8, hcap8, hbr, x0, x1, x2⟩ := hr8.at hqr
        have HTS : Hid (r.take (q + 1) = r.take q ++ [r[q]]) := Lib.hid (List.take_succ_eq_append_getElem hqr)
        have HXR : Hid (r[q] ∈ r) := Lib.hid (List.getElem_mem hqr)
        clear hr8
        generalize r[q] = x at *
        clear hqr
        have i0 : (0 : Int) ≤ (q : Int) := by omega
        have i1 : (q : Int) < (n : Int) := by omega
        obtain ⟨L, kk, hpu, hcs⟩ := pushes Hq x HRQ.out (by omega)
        unfold wv at hpu
        have HPU := Lib.hid hpu
        have HXB := Lib.hid (al wx (.cells #[.int .i64 x.c, .int .i64 x.s, .int .i64 x.o] 24))
        clear hpu hql
        rcases hcs with ⟨hmx, rfl, rfl⟩ | ⟨hmx, hrL, hLn, hLs, rfl⟩
        · obtain rfl : j = 1 := by
            have ha : allB l = false := allB_not (HTP.out.mem_iff.1 HXR.out) hmx
            rcases HCJ.out with h | h
            · exact h.2.2
            · rw [ha] at h; exact absurd h.1 (by decide)
          go_wp2_with (first
            | (go_at_call 18; (with_reducible refine (HPU.out _ _ (HH.out.below HXB.out)).mono ?_); rintro e w2 ⟨v2, rfl, q2, b2⟩; have HB2 := Lib.hid (below_trans HXB.out b2); clear q2 b2)
            | (go_at_call 14; (with_reducible refine (alive_any _).mono ?_); rintro e w3 ⟨rfl, hz⟩; have HB3 := Lib.hid (below_trans HB2.out hz); clear hz))
          go_ret
          exact ⟨rfl, below_trans HB8.out (below_trans HBW.out HB3.out)⟩
        · have HRL2 := Lib.hid hrL
          have HLS : Hid (sortL L = sortL (r.take (q + 1))) := Lib.hid (by
            rw [hLs, HTS.out]
            exact sortL_eq (((sortL_perm Hq).symm.trans ((HQS.out ▸ sortL_perm (r.take q)))).append_right [x]))
          have HLM : Hid (∀ z ∈ r.take (q + 1), mayB z = true) := Lib.hid (fun z hz => by
            rw [HTS.out, List.mem_append, List.mem_singleton] at hz
            rcases hz with hz | rfl
            · exact HQM.out z hz
            · exact hmx)
          rw [HQL.out] at hLn
          have HLN := Lib.hid hLn
          clear hrL hLs hLn
          go_wp2_with (first
            | (go_at_call 18; (with_reducible refine (HPU.out _ _ (HH.out.below HXB.out)).mono ?_); rintro e w2 ⟨v2, rfl, q2, b2⟩; have HB2 := Lib.hid (below_trans HXB.out b2); have HL2 := Lib.hid q2; obtain ⟨a2, c2, e2⟩ := q2.slice; rw [HLN.out] at e2; subst e2; clear q2 b2))
          go_roundw
          case rel => exact ⟨q + 1, L, a2, c2, by go_num, by omega, rfl, HL2.out, HRL2.out, HLN.out, HLS.out, HLM.out, below_trans HBW.out HB2.out⟩
          case measure => simp [Go.RowKit.intOf]; omega
      · obtain rfl : q = n := by omega
        have HRT : Hid (r.take q = r) := Lib.hid (by rw [← HRL.out, List.take_length])
        have HALL : Hid (allB l = true) := Lib.hid (allB_of HTP.out (by rw [HN.out]; omega) (fun z hz => HQM.out z (by rw [HRT.out]; exact hz)))
        obtain ⟨hj, hS⟩ : j = 0 ∧ S = sortL l := by
          rcases HCJ.out with h | h
          · rw [HALL.out] at h; exact absurd h.1 (by decide)
          · exact h.2
        subst hj
        subst hS
        have HSS : Hid (sortL Hq = sortL l) := Lib.hid (by rw [HQS.out, HRT.out]; exact sortL_eq HTP.out)
        have HB9 := Lib.hid (below_trans HB8.out HBW.out)
        have HS9 := Lib.hid (HS8.out.below HBW.out)
        clear HQS HQM HTP HRL HR8 HB8 HS8 HBW HCJ hlt hqn HALL HRT hql
        go_wp2_with fail
        go_loopw [7, 12, 75] (fun xh xo xi W => ∃ (i m : Nat) (Hi o : List Wt) (ah : Option Addr) (ch : Nat), xi = .int .i64 i ∧ i + m = q ∧ xh = .slice ah m ch ∧ QRow W (.slice ah m ch) Hi ∧ Hi.length = m ∧ rightB Hi = true ∧ sortL l = o ++ sortL Hi ∧ o.length = i ∧ OwnQ wx.heap.size xo o W ∧ Below wx.heap.size wx W) (fun _ _ xi _ => q - (Go.RowKit.intOf xi).toNat)
        case atStart => exact ⟨0, q, Hq, [], ah, ch, rfl, by omega, rfl, HH.out, HQL.out, HRQ.out, by rw [HSS.out]; rfl, rfl, World.ownsRow_nil _ _ _ _, Below.refl _ _⟩
        case round =>
          clear HH HRQ HSS HQL
          obtain ⟨i, m, Hi, o, ah2, ch2, rfl, him, rfl, hh, hml, hri, hsl, hol, hown, hbw⟩ := hrel
          have HH := Lib.hid hh
          have HSL := Lib.hid hsl
          have HOW := Lib.hid hown
          have HBW := Lib.hid hbw
          have HOL := Lib.hid hol
          have HML := Lib.hid hml
          clear hh hsl hown hbw hol
          by_cases hlt : i < q
          · obtain ⟨M, y, hpo, hrM, hMn, hsM⟩ := popsO Hi hri (by omega) (by omega)
            have HPO := Lib.hid hpo
            have HMN : Hid (M.length = m - 1) := Lib.hid (by omega)
            have HSM : Hid (sortL l = (o ++ [y]) ++ sortL M) := Lib.hid (by rw [HSL.out, hsM]; simp)
            have HRM := Lib.hid (fun (W : World) v (z : QRow W v M) => (show Calls Try.prog 12 #[v] W (BoolB true W) from by
              have := Right_any z (by omega)
              rwa [hrM] at this))
            have HRM2 := Lib.hid hrM
            have hi' : (i : Int) < (q : Int) := by omega
            have hol1 : o.length ≤ 1000 := by rw [HOL.out]; omega
            clear hpo hrM hMn hsM hri hml
            go_wp2_with (first
              | (go_at_call 19; (with_reducible refine (HPO.out _ _ HH.out).mono ?_); rintro e w1 ⟨v1, rfl, o1, b1⟩; have HB1 := Lib.hid b1; have HO1 := Lib.hid o1; have HYB := Lib.hid (Box.made w1 [.int .i64 y.c, .int .i64 y.s, .int .i64 y.o] 24); have HYA := Lib.hid (al w1 (.cells #[.int .i64 y.c, .int .i64 y.s, .int .i64 y.o] 24)); obtain ⟨ap, cp, ep⟩ := o1.row.slice; rw [HMN.out] at ep; subst ep; clear o1 b1; unfold wv)
              | (go_at_call 12; (with_reducible refine (HRM.out _ _ (HO1.out.row.below HYA.out)).mono ?_); rintro e w2 ⟨rfl, hz⟩; obtain ⟨y0, y1, y2⟩ := (HYB.out.below hz).c3; have HZ2 := Lib.hid (below_trans HB1.out (below_trans HYA.out hz)); have HO2 := Lib.hid ((HO1.out.below HYA.out).below hz); have HW2 := Lib.hid (HOW.out.below HZ2.out); have HAP := Lib.hid (own_apart HOW.out HO1.out (Nat.le_refl _)); clear hz)
              | (at_builtin; refine wpList_append_out rfl _ _ rfl wx.heap.size _ o rfl (HW2.out.below (al w2 (.cells #[.int .i64 y.c, .int .i64 y.s, .int .i64 y.o] 24))) ⟨w2.heap.size, 0, none⟩ y rfl (row_one w2 y) hol1 (Nat.le_trans (Nat.le_trans HBW.out.size HZ2.out.size) (al w2 (.cells #[.int .i64 y.c, .int .i64 y.s, .int .i64 y.o] 24)).size) (HO2.out.below (al w2 (.cells #[.int .i64 y.c, .int .i64 y.s, .int .i64 y.o] 24))) HAP.out ?_; intro v9 w9 ho9 hb9 hu9; have HO9 := Lib.hid ho9; have HU9 := Lib.hid hu9; have HB9b := Lib.hid ((HBW.out.trans ((below_trans HZ2.out (al w2 (.cells #[.int .i64 y.c, .int .i64 y.s, .int .i64 y.o] 24))).mono HBW.out.size)).trans hb9); clear ho9 hb9 hu9))
            go_roundw
            case rel => exact ⟨i + 1, m - 1, M, o ++ [y], ap, cp, by go_num, by omega, rfl, HU9.out.row, HMN.out, HRM2.out, HSM.out, by rw [List.length_append, HOL.out]; rfl, HO9.out, HB9b.out⟩
            case measure => simp [Go.RowKit.intOf]; omega
          · obtain rfl : m = 0 := by omega
            have hHi : Hi = [] := List.eq_nil_of_length_eq_zero HML.out
            subst hHi
            have HE : Hid (sortL l = o) := Lib.hid (by rw [HSL.out]; exact List.append_nil o)
            have hi' : ¬ (i : Int) < (q : Int) := by omega
            have HOR := Lib.hid HOW.out.row
            have HSR := Lib.hid (HS9.out.below HBW.out)
            rw [HE.out] at HSR
            go_wp2_with (first
              | (go_at_call 14; (with_reducible refine (alive_any _).mono ?_); rintro e w3 ⟨rfl, hz⟩; have HB3 := Lib.hid hz; clear hz)
              | (go_at_call 17; (with_reducible refine (Same_yes (HOR.out.below HB3.out) (HSR.out.below HB3.out)).mono ?_); rintro e w4 ⟨rfl, hz⟩; have HB4 := Lib.hid (below_trans HB3.out hz); clear hz))
            go_ret
            exact ⟨rfl, below_trans HB9.out (below_trans HBW.out HB4.out)⟩
set_option maxRecDepth 100000 in
set_option maxHeartbeats 4000000 in
theorem lifted (os : Os) (started : os.Started) (H : Type) (enc : TypeId × Value → H) :
    ReturnsInHanded {} Try.checked os 5 .any (Rows.queueOrdersSpec.pre6 enc Try.prog Try.f5 Rows.queueOrdersRow.domain false) (Rows.queueOrdersSpec.post enc Try.prog Try.f5 false true false false) := by
  refine returnsInHanded_of_change (C := Try.checked) own started (by kernel_rfl) Try.func5
    (ChangeSpec.witness6 (enc := enc) (C := Try.checked) false ⟨#[], #[.slice none 0 0, .int .i64 0], []⟩ 8 (by kernel_rfl) (by kernel_rfl) (by kernel_rfl) (by kernel_rfl)) ?_
  intro W base args ds gs before hval0 hW hcnd _
  have hval : ∀ (j : Nat) t v, Try.f5.params[j]? = some t → args[j]? = some v → Value.okWide Try.prog W .any base t v := hval0
  have hW' := hW
  obtain ⟨p, q, hA0, hV, rfl, hfz, hnd⟩ := hW
  have hA : DataW.TrodAll enc Try.prog W 0 (fun _ => true) true Try.f5.params.toList args.toList ds p := hA0
  rw [Try.params5] at hA hval
  obtain ⟨v0, vs0, d0, ds0, p0, q0, hargs, rfl, rfl, h0, r0⟩ := trodAll_cons hA
  obtain ⟨v1, vs1, d1, ds1, p1, q1, rfl, rfl, rfl, h1, r1⟩ := trodAll_cons r0
  obtain ⟨rfl, rfl, rfl⟩ := trodAll_nil r1
  obtain rfl : args = #[v0, v1] := by cases args; simp_all
  obtain ⟨rfl, rfl⟩ := trodVars_none hV
  have k0 := h0
  have lt0 : ∀ x ∈ p0, x.block < W.heap.size := by obtain ⟨m, hm⟩ := k0; exact DataW.trod_lt m _ _ _ hm
  obtain ⟨fuel0, hf0⟩ := h0
  obtain ⟨aa0, ll0, cc0, rfl⟩ := okWide_slice Try.underlying22 (hval 0 22 v0 rfl rfl)
  have w0 := argQ_of (v := .slice aa0 ll0 cc0) hf0
  obtain ⟨a1, rfl, rfl, rfl, w1⟩ := open_int Try.underlying3 (hval 1 3 v1 rfl rfl) h1
  have hb1 : -9223372036854775808 ≤ a1 ∧ a1 ≤ 9223372036854775807 := by
    have := w1
    simp [Lit.wf, IntKind.min, IntKind.max, IntKind.bits, IntKind.signed] at this
    omega
  clear hA0 hval0
  refine (walk0 (.slice aa0 ll0 cc0) a1 hb1.1 hb1.2 W w0).mono fun e W' ⟨he, bel⟩ => ?_
  subst he
  exact ⟨_, rfl, _, _, _, [], _, [], hW', trodAll_mk1 (shut_bool Try.underlying4 _), (trodAll_cons_mk (Below.trod laidOut (by kernel_rfl) (of_decide_eq_true (by kernel_rfl)) k0 bel lt0) (trodAll_cons_mk (shut_int Try.underlying3 w1) trodAll_mk0)), rfl, bel.frame _, fun h => by cases h⟩

theorem over : Rows.queueOrdersRow.holds Try.pinned (OpenSpec.ofChange Rows.queueOrdersSpec) :=
  OpenClaim.holds_of_wide 5 Try.f5 rfl rfl rfl rfl rfl rfl rfl ⟨rfl, rfl, rfl, rfl, rfl⟩ rfl rfl rfl rfl rfl (by kernel_rfl) Try.func5 (by kernel_rfl)
    (of_decide_eq_true (by kernel_rfl)) (by unfold Func.isWrapper; first | (rw [if_pos (by decide +kernel)]; kernel_rfl) | (rw [if_neg (by decide +kernel)]; exact ⟨rfl, rfl⟩))
    (fun os started H enc _ => lifted os started H enc)

theorem proved : Rows.QueueOrdersSaid := over
#print axioms proved
end Go.Proofs.Ytdgenemgegpkdaa.queueOrders
