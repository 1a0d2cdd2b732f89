/-
  Contract of the reference's Right.
-/
import Derived.Test.YthhadeohabkleaaGStay
namespace Go.Proofs.Ythhadeohabkleaa.Goods
open Go.ChangeShapes Go.WideShapes Go.ChangeAt Go.RowKit Go.Shelf Go.Lib

theorem right_parts (s : List ByteArray) (l : List Sb) : rightB s l = (decide (s.length ≤ 8) && s.all nameB && risesB ltT s && (decide (l.length ≤ 16) && l.all (okS s) && risesB belowB l && !twiceB l)) := rfl
theorem right_name {s : List ByteArray} {l : List Sb} {k : Nat} (hk : k < s.length) (e : nameB s[k] = false) : rightB s l = false := by
  rw [right_parts, not_all hk e]; simp
theorem right_rise {s : List ByteArray} {l : List Sb} {k : Nat} (h1 : 1 ≤ k) (hk : k < s.length) (e : ltT s[k - 1] s[k] = false) : rightB s l = false := by
  rw [right_parts, rises_no h1 hk e]; simp
theorem right_ok {s : List ByteArray} {l : List Sb} {k : Nat} (hk : k < l.length) (e : okS s l[k] = false) : rightB s l = false := by
  rw [right_parts, not_all hk e]; simp
theorem right_below {s : List ByteArray} {l : List Sb} {k : Nat} (h1 : 1 ≤ k) (hk : k < l.length) (e : belowB l[k - 1] l[k] = false) : rightB s l = false := by
  rw [right_parts, rises_no h1 hk e]; simp
theorem right_twice {s : List ByteArray} {l : List Sb} {k : Nat} (hk : k < l.length) (e : (l.take k).any (fun o => toB o l[k]) = true) : rightB s l = false := by
  rw [right_parts, twice_at hk e]; simp
theorem right_end {s : List ByteArray} {l : List Sb} {k : Nat} (hk : l.length ≤ k) (a1 : s.all nameB = true) (a2 : Upto ltT s s.length) (a3 : l.all (okS s) = true) (a4 : Upto belowB l k) (a5 : OnceTo l k) : rightB s l = (decide (s.length ≤ 8) && decide (l.length ≤ 16)) := by
  rw [right_parts, a1, rises_yes (lt := ltT) (fun _ _ _ h1 h2 => ltT_trans h1 h2) a2 (Nat.le_refl _), a3, rises_yes (lt := belowB) (fun _ _ _ h1 h2 => belowB_trans h1 h2) a4 hk, once_twice a5 hk]
  simp
theorem any_below {y : Sb} {l : List Sb} {j k : Nat} (hj : j < k) (hl : j < l.length) (e : toB l[j] y = true) : (l.take k).any (fun o => toB o y) = true :=
  List.any_eq_true.2 ⟨l[j], List.mem_take_iff_getElem.2 ⟨j, by omega, rfl⟩, e⟩
def RtA (s : List ByteArray) (k : Nat) (w W : World) : Prop := (s.take k).all nameB = true ∧ Upto ltT s k ∧ Below w.heap.size w W
def RtB (s : List ByteArray) (l : List Sb) (k : Nat) (w W : World) : Prop := (l.take k).all (okS s) = true ∧ Upto belowB l k ∧ OnceTo l k ∧ Below w.heap.size w W

set_option maxRecDepth 100000 in
set_option maxHeartbeats 4000000 in
theorem refRight_any {v u : Value} {s : List ByteArray} {l : List Sb} {w : World} (h : GGood w v u s l) (hs : Short s l) : Calls Try.prog 12 #[.agg #[v, u]] w (BoolB (rightB s l) w) := by
  obtain ⟨h1, h2⟩ := h
  obtain ⟨s1, s2, s3, s4⟩ := hs
  have H1 := Lib.hid h1
  have H2 := Lib.hid h2
  have HS3 := Lib.hid s3
  have HS4 := Lib.hid s4
  obtain ⟨sa, cs, rfl⟩ := h1.slice
  obtain ⟨al', cl, rfl⟩ := h2.slice
  obtain ⟨hcl1, hcl2⟩ := h2.cap.2
  have hxg := Box.made w [.slice sa s.length cs, .slice al' l.length cl] 25
  have hbg := al w (.cells #[.slice sa s.length cs, .slice al' l.length cl] 25)
  obtain ⟨W0, hW0⟩ : ∃ W0, w.alloc (.cells #[.slice sa s.length cs, .slice al' l.length cl] 25) = W0 := ⟨_, rfl⟩
  have HXG0 : Hid (Box w.heap.size [.slice sa s.length cs, .slice al' l.length cl] W0) := Lib.hid (hW0 ▸ hxg)
  have HBG : Hid (Below w.heap.size w W0) := Lib.hid (hW0 ▸ hbg)
  clear h1 h2 s3 s4 hxg hbg
  go_enter Try.func12, Try.ntmps12
  go_upto_region 1 with (fail)
  clear hW0
  obtain ⟨z0, z1⟩ := HXG0.out.c2
  have hsz := HXG0.out.1
  go_wp2_with fail
  clear z0 z1 hsz
  go_loopw [3, 4, 12] (fun _ _ i wr => ∃ k : Nat, k ≤ s.length ∧ i = .int .i64 k ∧ RtA s k W0 wr) (fun _ _ i _ => s.length - (intOf i).toNat)
  case atStart => exact ⟨0, Nat.zero_le _, rfl, rfl, fun _ _ h => by omega, Below.refl _ _⟩
  case round =>
    obtain ⟨k, hk, rfl, hr⟩ := hrel
    have HR := Lib.hid hr
    have HXG := Lib.hid (HXG0.out.below hr.2.2)
    have HBW := Lib.hid (below_trans HBG.out hr.2.2)
    clear hr
    by_cases hlt : k < s.length
    · obtain ⟨b, off, rfl, _, _, hb, k0⟩ := (H1.out.below HBW.out).at hlt
      have hn := fun W => refName_any s[k] (HS3.out _ (List.getElem_mem hlt)) W
      cases hm : nameB s[k] with
      | false =>
        rw [hm] at hn
        have HN := Lib.hid hn
        have HNO := Lib.hid (right_name (l := l) hlt hm)
        clear hn hm
        go_wp2_with fail
        (with_reducible refine (HN.out _).mono ?_)
        rintro e w1 ⟨rfl, hz⟩
        have HZ := Lib.hid (below_trans HBW.out hz)
        clear hz
        go_wp2_with fail
        go_ret
        exact ⟨ret_bool HNO.out.symm, HZ.out⟩
      | true =>
        rw [hm] at hn
        have HN := Lib.hid hn
        have HAT : Hid ((s.take (k + 1)).all nameB = true) := Lib.hid (by rw [all_take hlt, HR.out.1, hm]; rfl)
        clear hn hm
        rcases Nat.eq_zero_or_pos k with rfl | hpos
        · generalize s[0] = x at *
          simp only [Nat.add_zero] at k0
          go_wp2_with fail
          (with_reducible refine (HN.out _).mono ?_)
          rintro e w1 ⟨rfl, hz⟩
          have HZ := Lib.hid (below_trans HR.out.2.2 hz)
          clear hz
          go_wp2_with fail
          go_roundw
          case rel => exact ⟨1, by omega, rfl, HAT.out, fun _ _ h => by omega, HZ.out⟩
          case measure => simp [intOf]; omega
        · obtain ⟨q, rfl⟩ : ∃ q, k = q + 1 := ⟨k - 1, by omega⟩
          have hq : q < s.length := by omega
          have hc := fun W => refLess_any s[q] s[q + 1] (HS3.out _ (List.getElem_mem hq)) (HS3.out _ (List.getElem_mem hlt)) W
          have HUP := Lib.hid (fun e => upto_succ (lt := ltT) HR.out.2.1 hpos hlt e)
          have HNO := Lib.hid (fun e => right_rise (l := l) hpos hlt e)
          simp only [Nat.add_sub_cancel] at HUP HNO
          have c2 : IntKind.i64.wrap (q : Int) = q := IntWalk.i64_in _ (by omega)
          have c3 : (0 : Int) ≤ q := by omega
          have c4 : (q : Int) < s.length := by omega
          cases hm : ltT s[q] s[q + 1] with
          | true =>
            rw [hm] at hc
            have HC := Lib.hid hc
            have HUP2 := Lib.hid (HUP.out hm)
            clear hc hm HUP HNO
            go_wp2_with fail
            (with_reducible refine (HN.out _).mono ?_)
            rintro e w1 ⟨rfl, hz⟩
            obtain ⟨z0, z1⟩ := (HXG.out.below hz).c2
            have hsz := (HXG.out.below hz).1
            obtain ⟨b', off', e', _, _, hb', m0⟩ := (H1.out.below (below_trans HBW.out hz)).at hq
            cases e'
            have HZ := Lib.hid (below_trans HR.out.2.2 hz)
            clear hz
            go_wp2_with fail
            (with_reducible refine (HC.out _).mono ?_)
            rintro e w2 ⟨rfl, hz⟩
            have HZ2 := Lib.hid (below_trans HZ.out hz)
            clear hz
            go_wp2_with fail
            go_roundw
            case rel => exact ⟨q + 1 + 1, by omega, by go_num, HAT.out, HUP2.out, HZ2.out⟩
            case measure => simp [intOf]; omega
          | false =>
            rw [hm] at hc
            have HC := Lib.hid hc
            have HNO2 := Lib.hid (HNO.out hm)
            clear hc hm HUP HNO
            go_wp2_with fail
            (with_reducible refine (HN.out _).mono ?_)
            rintro e w1 ⟨rfl, hz⟩
            obtain ⟨z0, z1⟩ := (HXG.out.below hz).c2
            have hsz := (HXG.out.below hz).1
            obtain ⟨b', off', e', _, _, hb', m0⟩ := (H1.out.below (below_trans HBW.out hz)).at hq
            cases e'
            have HZ := Lib.hid (below_trans HBW.out hz)
            clear hz
            go_wp2_with fail
            (with_reducible refine (HC.out _).mono ?_)
            rintro e w2 ⟨rfl, hz⟩
            have HZ2 := Lib.hid (below_trans HZ.out hz)
            clear hz
            go_wp2_with fail
            go_ret
            exact ⟨ret_bool HNO2.out.symm, HZ2.out⟩
    · obtain rfl : k = s.length := by omega
      have hall := HR.out.1
      rw [List.take_length] at hall
      have HALL := Lib.hid hall
      have HUPS := Lib.hid HR.out.2.1
      obtain ⟨z0, z1⟩ := HXG.out.c2
      have hsz := HXG.out.1
      clear hall HR
      go_wp2_with fail
      clear z0 z1 hsz HXG0 HBG
      rename World => W1
      go_loopw [5, 6, 39] (fun _ _ i wr => ∃ k : Nat, k ≤ l.length ∧ i = .int .i64 k ∧ RtB s l k W1 wr) (fun _ _ i _ => l.length - (intOf i).toNat)
      case atStart => exact ⟨0, Nat.zero_le _, rfl, rfl, fun _ _ h => by omega, fun _ _ h => by omega, Below.refl _ _⟩
      case round =>
        obtain ⟨k, hk, rfl, hr⟩ := hrel
        have HR := Lib.hid hr
        have HXGR := Lib.hid (HXG.out.below hr.2.2.2)
        have HBW2 := Lib.hid (below_trans HBW.out hr.2.2.2)
        clear hr
        by_cases hlt2 : k < l.length
        · obtain ⟨b, off, rfl, _, _, hb, k0, k1, k2, k3, k4⟩ := (H2.out.below HBW2.out).at hlt2
          have hsy := HS4.out _ (List.getElem_mem hlt2)
          have ha := al wr (.cells (sl l[k]).toArray 27)
          have hbx := Box.made wr (sl l[k]) 27
          have HNO := Lib.hid (fun e => right_ok (s := s) hlt2 e)
          have HAT := Lib.hid (fun (e : okS s l[k] = true) => (by rw [all_take hlt2, HR.out.1, e]; rfl : (l.take (k + 1)).all (okS s) = true))
          unfold sl at ha hbx
          have HYE : Hid (∃ y, y = l[k]) := Lib.hid ⟨_, rfl⟩
          obtain ⟨y, hye⟩ : ∃ y, y = l[k] := ⟨_, rfl⟩
          have HYE := Lib.hid hye
          rw [← hye] at k0 k1 k2 k3 k4 hsy ha hbx HNO HAT
          clear hye
          have hm := fun W => refMay_any y hsy W
          have hf := fun W (hW : Below wr.heap.size wr W) => refHas_any (H1.out.below (below_trans HBW2.out hW)) s1 y.f
          have ht := fun W (hW : Below wr.heap.size wr W) => refHas_any (H1.out.below (below_trans HBW2.out hW)) s1 y.t
          go_upto_region 10 with (fail)
          have HXY0 := Lib.hid hbx
          have HXG2 := Lib.hid (HXGR.out.below ha)
          have HB2 := Lib.hid (below_trans HBW2.out ha)
          have HBR2 := Lib.hid (below_trans HR.out.2.2.2 ha)
          have HWR2 := Lib.hid ha
          have HPR : Hid (∀ q, (hq : q < l.length) → ∀ W', Below (wr.alloc (.cells #[.string y.f, .string y.t, .int .i64 y.r, .int .i64 y.n, .int .i64 y.d] 27)).heap.size (wr.alloc (.cells #[.string y.f, .string y.t, .int .i64 y.r, .int .i64 y.n, .int .i64 y.d] 27)) W' → W'.cell? ⟨b, off + q * 5, none⟩ = some (.string l[q].f) ∧ W'.cell? ⟨b, off + q * 5 + 1, none⟩ = some (.string l[q].t) ∧ W'.cell? ⟨b, off + q * 5 + 2, none⟩ = some (.int .i64 l[q].r) ∧ W'.cell? ⟨b, off + q * 5 + 3, none⟩ = some (.int .i64 l[q].n) ∧ W'.cell? ⟨b, off + q * 5 + 4, none⟩ = some (.int .i64 l[q].d)) := Lib.hid fun q hq W' hW => by
            obtain ⟨b', off', e', _, _, _, c0, c1, c2, c3, c4⟩ := (H2.out.below (below_trans HBW2.out (below_trans ha hW))).at hq
            cases e'
            exact ⟨c0, c1, c2, c3, c4⟩
          have HMM := Lib.hid hm
          have HFF := Lib.hid (fun W hW => hf W (below_trans ha hW))
          have HTT := Lib.hid (fun W hW => ht W (below_trans ha hW))
          clear HWR2
          have HSYY := Lib.hid hsy
          clear hbx ha k0 k1 k2 k3 k4 hm hf ht hsy
          generalize hgy : wr.heap.size = gy at *
          generalize wr.alloc (.cells #[.string y.f, .string y.t, .int .i64 y.r, .int .i64 y.n, .int .i64 y.d] 27) = W2 at *
          go_cut [77] from 44 to 77 (fun z wx => ((z = .bool true ∧ rightB s l = false) ∨ (z = .bool false ∧ (l.take (k + 1)).all (okS s) = true ∧ Upto belowB l (k + 1))) ∧ Below W2.heap.size W2 wx)
          case first =>
            unfold sv at HMM
            cases e1 : mayB y with
            | false =>
              have HM := Lib.hid (fun W => e1 ▸ HMM.out W)
              have HNO2 := Lib.hid (HNO.out (by unfold okS; rw [e1]; rfl))
              clear e1
              refine wp_region_noPanic ?_
              refine wp_region_held_drew (S := fun W' => Below W2.heap.size W2 W') (by kernel_rfl) (dr W2) (fun hHeld => ?_)
              try simp only [Act.put, List.setIfInBounds_toArray, List.set_cons_zero, List.set_cons_succ]
              refine takeH 0 44 (.agg #[.string y.f, .string y.t, .int .i64 y.r, .int .i64 y.n, .int .i64 y.d]) calm_np rfl rfl (by kernel_rfl) (by kernel_rfl) (by kernel_rfl) (by rfl) (fun W' hSw => by obtain ⟨g0, g1, g2, g3, g4⟩ := (HXY0.out.below hSw).c5; go_simp) hHeld ?_
              try simp only [Act.put, List.setIfInBounds_toArray, List.set_cons_zero, List.set_cons_succ]
              refine wpAnyH_ready (rs := [1]) (by kernel_rfl) (by simp) (AllReadyH.cons rfl (fun K hK => ?_) AllReadyH.nil)
              go_simp
              go_at_call 19
              refine (HM.out _).mono ?_
              rintro e V1 ⟨rfl, hz⟩
              have hh := below_trans hHeld hz
              clear hz
              go_simp
              refine hK.out _ _ hh (fun hHeld => ?_)
              clear hK
              try simp only [Act.put, List.setIfInBounds_toArray, List.set_cons_zero, List.set_cons_succ]
              refine takeH 2 46 (.bool true) calm_np rfl rfl (by kernel_rfl) (by kernel_rfl) (by kernel_rfl) (by rfl) (fun W' hSw => by go_simp) hHeld ?_
              try simp only [Act.put, List.setIfInBounds_toArray, List.set_cons_zero, List.set_cons_succ]
              refine takeH 3 47 (.bool true) calm_np rfl rfl (by kernel_rfl) (by kernel_rfl) (by kernel_rfl) (by rfl) (fun W' hSw => by go_simp) hHeld ?_
              try simp only [Act.put, List.setIfInBounds_toArray, List.set_cons_zero, List.set_cons_succ]
              refine skipH 4 48 calm_np rfl rfl (by kernel_rfl) (by kernel_rfl) (by kernel_rfl) (by rfl) hHeld ?_
              try simp only [Act.put, List.setIfInBounds_toArray, List.set_cons_zero, List.set_cons_succ]
              refine skipH 5 49 calm_np rfl rfl (by kernel_rfl) (by kernel_rfl) (by kernel_rfl) (by rfl) hHeld ?_
              try simp only [Act.put, List.setIfInBounds_toArray, List.set_cons_zero, List.set_cons_succ]
              refine skipH 6 50 calm_np rfl rfl (by kernel_rfl) (by kernel_rfl) (by kernel_rfl) (by rfl) hHeld ?_
              try simp only [Act.put, List.setIfInBounds_toArray, List.set_cons_zero, List.set_cons_succ]
              refine skipH 7 51 calm_np rfl rfl (by kernel_rfl) (by kernel_rfl) (by kernel_rfl) (by rfl) hHeld ?_
              try simp only [Act.put, List.setIfInBounds_toArray, List.set_cons_zero, List.set_cons_succ]
              refine skipH 8 52 calm_np rfl rfl (by kernel_rfl) (by kernel_rfl) (by kernel_rfl) (by rfl) hHeld ?_
              try simp only [Act.put, List.setIfInBounds_toArray, List.set_cons_zero, List.set_cons_succ]
              refine skipH 9 53 calm_np rfl rfl (by kernel_rfl) (by kernel_rfl) (by kernel_rfl) (by rfl) hHeld ?_
              try simp only [Act.put, List.setIfInBounds_toArray, List.set_cons_zero, List.set_cons_succ]
              refine takeH 10 54 (.bool true) calm_np rfl rfl (by kernel_rfl) (by kernel_rfl) (by kernel_rfl) (by rfl) (fun W' hSw => by go_simp) hHeld ?_
              try simp only [Act.put, List.setIfInBounds_toArray, List.set_cons_zero, List.set_cons_succ]
              refine takeH 11 55 (.bool true) calm_np rfl rfl (by kernel_rfl) (by kernel_rfl) (by kernel_rfl) (by rfl) (fun W' hSw => by go_simp) hHeld ?_
              try simp only [Act.put, List.setIfInBounds_toArray, List.set_cons_zero, List.set_cons_succ]
              refine skipH 12 56 calm_np rfl rfl (by kernel_rfl) (by kernel_rfl) (by kernel_rfl) (by rfl) hHeld ?_
              try simp only [Act.put, List.setIfInBounds_toArray, List.set_cons_zero, List.set_cons_succ]
              refine skipH 13 57 calm_np rfl rfl (by kernel_rfl) (by kernel_rfl) (by kernel_rfl) (by rfl) hHeld ?_
              try simp only [Act.put, List.setIfInBounds_toArray, List.set_cons_zero, List.set_cons_succ]
              refine skipH 14 58 calm_np rfl rfl (by kernel_rfl) (by kernel_rfl) (by kernel_rfl) (by rfl) hHeld ?_
              try simp only [Act.put, List.setIfInBounds_toArray, List.set_cons_zero, List.set_cons_succ]
              refine skipH 15 59 calm_np rfl rfl (by kernel_rfl) (by kernel_rfl) (by kernel_rfl) (by rfl) hHeld ?_
              try simp only [Act.put, List.setIfInBounds_toArray, List.set_cons_zero, List.set_cons_succ]
              refine skipH 16 60 calm_np rfl rfl (by kernel_rfl) (by kernel_rfl) (by kernel_rfl) (by rfl) hHeld ?_
              try simp only [Act.put, List.setIfInBounds_toArray, List.set_cons_zero, List.set_cons_succ]
              refine skipH 17 61 calm_np rfl rfl (by kernel_rfl) (by kernel_rfl) (by kernel_rfl) (by rfl) hHeld ?_
              try simp only [Act.put, List.setIfInBounds_toArray, List.set_cons_zero, List.set_cons_succ]
              refine takeH 18 62 (.bool true) calm_np rfl rfl (by kernel_rfl) (by kernel_rfl) (by kernel_rfl) (by rfl) (fun W' hSw => by go_simp) hHeld ?_
              try simp only [Act.put, List.setIfInBounds_toArray, List.set_cons_zero, List.set_cons_succ]
              refine takeH 19 63 (.bool true) calm_np rfl rfl (by kernel_rfl) (by kernel_rfl) (by kernel_rfl) (by rfl) (fun W' hSw => by go_simp) hHeld ?_
              try simp only [Act.put, List.setIfInBounds_toArray, List.set_cons_zero, List.set_cons_succ]
              refine skipH 20 64 calm_np rfl rfl (by kernel_rfl) (by kernel_rfl) (by kernel_rfl) (by rfl) hHeld ?_
              try simp only [Act.put, List.setIfInBounds_toArray, List.set_cons_zero, List.set_cons_succ]
              refine skipH 21 65 calm_np rfl rfl (by kernel_rfl) (by kernel_rfl) (by kernel_rfl) (by rfl) hHeld ?_
              try simp only [Act.put, List.setIfInBounds_toArray, List.set_cons_zero, List.set_cons_succ]
              refine skipH 22 66 calm_np rfl rfl (by kernel_rfl) (by kernel_rfl) (by kernel_rfl) (by rfl) hHeld ?_
              try simp only [Act.put, List.setIfInBounds_toArray, List.set_cons_zero, List.set_cons_succ]
              refine skipH 23 67 calm_np rfl rfl (by kernel_rfl) (by kernel_rfl) (by kernel_rfl) (by rfl) hHeld ?_
              try simp only [Act.put, List.setIfInBounds_toArray, List.set_cons_zero, List.set_cons_succ]
              refine skipH 24 68 calm_np rfl rfl (by kernel_rfl) (by kernel_rfl) (by kernel_rfl) (by rfl) hHeld ?_
              try simp only [Act.put, List.setIfInBounds_toArray, List.set_cons_zero, List.set_cons_succ]
              refine skipH 25 69 calm_np rfl rfl (by kernel_rfl) (by kernel_rfl) (by kernel_rfl) (by rfl) hHeld ?_
              try simp only [Act.put, List.setIfInBounds_toArray, List.set_cons_zero, List.set_cons_succ]
              refine skipH 26 70 calm_np rfl rfl (by kernel_rfl) (by kernel_rfl) (by kernel_rfl) (by rfl) hHeld ?_
              try simp only [Act.put, List.setIfInBounds_toArray, List.set_cons_zero, List.set_cons_succ]
              refine skipH 27 71 calm_np rfl rfl (by kernel_rfl) (by kernel_rfl) (by kernel_rfl) (by rfl) hHeld ?_
              try simp only [Act.put, List.setIfInBounds_toArray, List.set_cons_zero, List.set_cons_succ]
              refine skipH 28 72 calm_np rfl rfl (by kernel_rfl) (by kernel_rfl) (by kernel_rfl) (by rfl) hHeld ?_
              try simp only [Act.put, List.setIfInBounds_toArray, List.set_cons_zero, List.set_cons_succ]
              refine skipH 29 73 calm_np rfl rfl (by kernel_rfl) (by kernel_rfl) (by kernel_rfl) (by rfl) hHeld ?_
              try simp only [Act.put, List.setIfInBounds_toArray, List.set_cons_zero, List.set_cons_succ]
              refine skipH 30 74 calm_np rfl rfl (by kernel_rfl) (by kernel_rfl) (by kernel_rfl) (by rfl) hHeld ?_
              try simp only [Act.put, List.setIfInBounds_toArray, List.set_cons_zero, List.set_cons_succ]
              refine skipH 31 75 calm_np rfl rfl (by kernel_rfl) (by kernel_rfl) (by kernel_rfl) (by rfl) hHeld ?_
              try simp only [Act.put, List.setIfInBounds_toArray, List.set_cons_zero, List.set_cons_succ]
              refine skipH 32 76 calm_np rfl rfl (by kernel_rfl) (by kernel_rfl) (by kernel_rfl) (by rfl) hHeld ?_
              try simp only [Act.put, List.setIfInBounds_toArray, List.set_cons_zero, List.set_cons_succ]
              refine takeH 33 77 (.bool true) calm_np rfl rfl (by kernel_rfl) (by kernel_rfl) (by kernel_rfl) (by rfl) (fun W' hSw => by go_simp) hHeld ?_
              try simp only [Act.put, List.setIfInBounds_toArray, List.set_cons_zero, List.set_cons_succ]
              refine wpAnyH_done (by kernel_rfl) ?_ _
              refine NoPanic.normal ?_
              go_wp2_with fail
              go_meet
              exact ⟨.inl ⟨rfl, HNO2.out⟩, hHeld⟩
            | true =>
              have HM := Lib.hid (fun W => e1 ▸ HMM.out W)
              cases e2 : hasB s y.f with
              | false =>
                have HF := Lib.hid (fun W (hW : Below W2.heap.size W2 W) => e2 ▸ HFF.out W hW)
                have HNO2 := Lib.hid (HNO.out (by unfold okS amongB; rw [e2]; simp))
                clear e1 e2
                refine wp_region_noPanic ?_
                refine wp_region_held_drew (S := fun W' => Below W2.heap.size W2 W') (by kernel_rfl) (dr W2) (fun hHeld => ?_)
                try simp only [Act.put, List.setIfInBounds_toArray, List.set_cons_zero, List.set_cons_succ]
                refine takeH 0 44 (.agg #[.string y.f, .string y.t, .int .i64 y.r, .int .i64 y.n, .int .i64 y.d]) calm_np rfl rfl (by kernel_rfl) (by kernel_rfl) (by kernel_rfl) (by rfl) (fun W' hSw => by obtain ⟨g0, g1, g2, g3, g4⟩ := (HXY0.out.below hSw).c5; go_simp) hHeld ?_
                try simp only [Act.put, List.setIfInBounds_toArray, List.set_cons_zero, List.set_cons_succ]
                refine wpAnyH_ready (rs := [1]) (by kernel_rfl) (by simp) (AllReadyH.cons rfl (fun K hK => ?_) AllReadyH.nil)
                go_simp
                go_at_call 19
                refine (HM.out _).mono ?_
                rintro e V1 ⟨rfl, hz⟩
                have hh := below_trans hHeld hz
                clear hz
                go_simp
                refine hK.out _ _ hh (fun hHeld => ?_)
                clear hK
                try simp only [Act.put, List.setIfInBounds_toArray, List.set_cons_zero, List.set_cons_succ]
                refine takeH 2 46 (.bool false) calm_np rfl rfl (by kernel_rfl) (by kernel_rfl) (by kernel_rfl) (by rfl) (fun W' hSw => by go_simp) hHeld ?_
                try simp only [Act.put, List.setIfInBounds_toArray, List.set_cons_zero, List.set_cons_succ]
                refine takeH 3 47 (.bool false) calm_np rfl rfl (by kernel_rfl) (by kernel_rfl) (by kernel_rfl) (by rfl) (fun W' hSw => by go_simp) hHeld ?_
                try simp only [Act.put, List.setIfInBounds_toArray, List.set_cons_zero, List.set_cons_succ]
                refine takeH 4 48 (.pointer (some ⟨w.heap.size, 0, none⟩)) calm_np rfl rfl (by kernel_rfl) (by kernel_rfl) (by kernel_rfl) (by rfl) (fun W' hSw => by go_simp) hHeld ?_
                try simp only [Act.put, List.setIfInBounds_toArray, List.set_cons_zero, List.set_cons_succ]
                refine takeH 5 49 (.slice sa s.length cs) calm_np rfl rfl (by kernel_rfl) (by kernel_rfl) (by kernel_rfl) (by rfl) (fun W' hSw => by obtain ⟨g0, g1⟩ := (HXG2.out.below hSw).c2; go_simp) hHeld ?_
                try simp only [Act.put, List.setIfInBounds_toArray, List.set_cons_zero, List.set_cons_succ]
                refine takeH 6 50 (.pointer (some ⟨gy, 0, none⟩)) calm_np rfl rfl (by kernel_rfl) (by kernel_rfl) (by kernel_rfl) (by rfl) (fun W' hSw => by go_simp) hHeld ?_
                try simp only [Act.put, List.setIfInBounds_toArray, List.set_cons_zero, List.set_cons_succ]
                refine takeH 7 51 (.string y.f) calm_np rfl rfl (by kernel_rfl) (by kernel_rfl) (by kernel_rfl) (by rfl) (fun W' hSw => by obtain ⟨g0, g1, g2, g3, g4⟩ := (HXY0.out.below hSw).c5; go_simp) hHeld ?_
                try simp only [Act.put, List.setIfInBounds_toArray, List.set_cons_zero, List.set_cons_succ]
                refine wpAnyH_ready (rs := [8]) (by kernel_rfl) (by simp) (AllReadyH.cons rfl (fun K hK => ?_) AllReadyH.nil)
                go_simp
                go_at_call 16
                refine (HF.out _ hHeld).mono ?_
                rintro e V2 ⟨rfl, hz⟩
                have hh := below_trans hHeld hz
                clear hz
                go_simp
                refine hK.out _ _ hh (fun hHeld => ?_)
                clear hK
                try simp only [Act.put, List.setIfInBounds_toArray, List.set_cons_zero, List.set_cons_succ]
                refine takeH 9 53 (.bool true) calm_np rfl rfl (by kernel_rfl) (by kernel_rfl) (by kernel_rfl) (by rfl) (fun W' hSw => by go_simp) hHeld ?_
                try simp only [Act.put, List.setIfInBounds_toArray, List.set_cons_zero, List.set_cons_succ]
                refine takeH 10 54 (.bool true) calm_np rfl rfl (by kernel_rfl) (by kernel_rfl) (by kernel_rfl) (by rfl) (fun W' hSw => by go_simp) hHeld ?_
                try simp only [Act.put, List.setIfInBounds_toArray, List.set_cons_zero, List.set_cons_succ]
                refine takeH 11 55 (.bool true) calm_np rfl rfl (by kernel_rfl) (by kernel_rfl) (by kernel_rfl) (by rfl) (fun W' hSw => by go_simp) hHeld ?_
                try simp only [Act.put, List.setIfInBounds_toArray, List.set_cons_zero, List.set_cons_succ]
                refine skipH 12 56 calm_np rfl rfl (by kernel_rfl) (by kernel_rfl) (by kernel_rfl) (by rfl) hHeld ?_
                try simp only [Act.put, List.setIfInBounds_toArray, List.set_cons_zero, List.set_cons_succ]
                refine skipH 13 57 calm_np rfl rfl (by kernel_rfl) (by kernel_rfl) (by kernel_rfl) (by rfl) hHeld ?_
                try simp only [Act.put, List.setIfInBounds_toArray, List.set_cons_zero, List.set_cons_succ]
                refine skipH 14 58 calm_np rfl rfl (by kernel_rfl) (by kernel_rfl) (by kernel_rfl) (by rfl) hHeld ?_
                try simp only [Act.put, List.setIfInBounds_toArray, List.set_cons_zero, List.set_cons_succ]
                refine skipH 15 59 calm_np rfl rfl (by kernel_rfl) (by kernel_rfl) (by kernel_rfl) (by rfl) hHeld ?_
                try simp only [Act.put, List.setIfInBounds_toArray, List.set_cons_zero, List.set_cons_succ]
                refine skipH 16 60 calm_np rfl rfl (by kernel_rfl) (by kernel_rfl) (by kernel_rfl) (by rfl) hHeld ?_
                try simp only [Act.put, List.setIfInBounds_toArray, List.set_cons_zero, List.set_cons_succ]
                refine skipH 17 61 calm_np rfl rfl (by kernel_rfl) (by kernel_rfl) (by kernel_rfl) (by rfl) hHeld ?_
                try simp only [Act.put, List.setIfInBounds_toArray, List.set_cons_zero, List.set_cons_succ]
                refine takeH 18 62 (.bool true) calm_np rfl rfl (by kernel_rfl) (by kernel_rfl) (by kernel_rfl) (by rfl) (fun W' hSw => by go_simp) hHeld ?_
                try simp only [Act.put, List.setIfInBounds_toArray, List.set_cons_zero, List.set_cons_succ]
                refine takeH 19 63 (.bool true) calm_np rfl rfl (by kernel_rfl) (by kernel_rfl) (by kernel_rfl) (by rfl) (fun W' hSw => by go_simp) hHeld ?_
                try simp only [Act.put, List.setIfInBounds_toArray, List.set_cons_zero, List.set_cons_succ]
                refine skipH 20 64 calm_np rfl rfl (by kernel_rfl) (by kernel_rfl) (by kernel_rfl) (by rfl) hHeld ?_
                try simp only [Act.put, List.setIfInBounds_toArray, List.set_cons_zero, List.set_cons_succ]
                refine skipH 21 65 calm_np rfl rfl (by kernel_rfl) (by kernel_rfl) (by kernel_rfl) (by rfl) hHeld ?_
                try simp only [Act.put, List.setIfInBounds_toArray, List.set_cons_zero, List.set_cons_succ]
                refine skipH 22 66 calm_np rfl rfl (by kernel_rfl) (by kernel_rfl) (by kernel_rfl) (by rfl) hHeld ?_
                try simp only [Act.put, List.setIfInBounds_toArray, List.set_cons_zero, List.set_cons_succ]
                refine skipH 23 67 calm_np rfl rfl (by kernel_rfl) (by kernel_rfl) (by kernel_rfl) (by rfl) hHeld ?_
                try simp only [Act.put, List.setIfInBounds_toArray, List.set_cons_zero, List.set_cons_succ]
                refine skipH 24 68 calm_np rfl rfl (by kernel_rfl) (by kernel_rfl) (by kernel_rfl) (by rfl) hHeld ?_
                try simp only [Act.put, List.setIfInBounds_toArray, List.set_cons_zero, List.set_cons_succ]
                refine skipH 25 69 calm_np rfl rfl (by kernel_rfl) (by kernel_rfl) (by kernel_rfl) (by rfl) hHeld ?_
                try simp only [Act.put, List.setIfInBounds_toArray, List.set_cons_zero, List.set_cons_succ]
                refine skipH 26 70 calm_np rfl rfl (by kernel_rfl) (by kernel_rfl) (by kernel_rfl) (by rfl) hHeld ?_
                try simp only [Act.put, List.setIfInBounds_toArray, List.set_cons_zero, List.set_cons_succ]
                refine skipH 27 71 calm_np rfl rfl (by kernel_rfl) (by kernel_rfl) (by kernel_rfl) (by rfl) hHeld ?_
                try simp only [Act.put, List.setIfInBounds_toArray, List.set_cons_zero, List.set_cons_succ]
                refine skipH 28 72 calm_np rfl rfl (by kernel_rfl) (by kernel_rfl) (by kernel_rfl) (by rfl) hHeld ?_
                try simp only [Act.put, List.setIfInBounds_toArray, List.set_cons_zero, List.set_cons_succ]
                refine skipH 29 73 calm_np rfl rfl (by kernel_rfl) (by kernel_rfl) (by kernel_rfl) (by rfl) hHeld ?_
                try simp only [Act.put, List.setIfInBounds_toArray, List.set_cons_zero, List.set_cons_succ]
                refine skipH 30 74 calm_np rfl rfl (by kernel_rfl) (by kernel_rfl) (by kernel_rfl) (by rfl) hHeld ?_
                try simp only [Act.put, List.setIfInBounds_toArray, List.set_cons_zero, List.set_cons_succ]
                refine skipH 31 75 calm_np rfl rfl (by kernel_rfl) (by kernel_rfl) (by kernel_rfl) (by rfl) hHeld ?_
                try simp only [Act.put, List.setIfInBounds_toArray, List.set_cons_zero, List.set_cons_succ]
                refine skipH 32 76 calm_np rfl rfl (by kernel_rfl) (by kernel_rfl) (by kernel_rfl) (by rfl) hHeld ?_
                try simp only [Act.put, List.setIfInBounds_toArray, List.set_cons_zero, List.set_cons_succ]
                refine takeH 33 77 (.bool true) calm_np rfl rfl (by kernel_rfl) (by kernel_rfl) (by kernel_rfl) (by rfl) (fun W' hSw => by go_simp) hHeld ?_
                try simp only [Act.put, List.setIfInBounds_toArray, List.set_cons_zero, List.set_cons_succ]
                refine wpAnyH_done (by kernel_rfl) ?_ _
                refine NoPanic.normal ?_
                go_wp2_with fail
                go_meet
                exact ⟨.inl ⟨rfl, HNO2.out⟩, hHeld⟩
              | true =>
                have HF := Lib.hid (fun W (hW : Below W2.heap.size W2 W) => e2 ▸ HFF.out W hW)
                cases e3 : hasB s y.t with
                | false =>
                  have HT := Lib.hid (fun W (hW : Below W2.heap.size W2 W) => e3 ▸ HTT.out W hW)
                  have HNO2 := Lib.hid (HNO.out (by unfold okS amongB; rw [e3]; simp))
                  clear e1 e2 e3
                  refine wp_region_noPanic ?_
                  refine wp_region_held_drew (S := fun W' => Below W2.heap.size W2 W') (by kernel_rfl) (dr W2) (fun hHeld => ?_)
                  try simp only [Act.put, List.setIfInBounds_toArray, List.set_cons_zero, List.set_cons_succ]
                  refine takeH 0 44 (.agg #[.string y.f, .string y.t, .int .i64 y.r, .int .i64 y.n, .int .i64 y.d]) calm_np rfl rfl (by kernel_rfl) (by kernel_rfl) (by kernel_rfl) (by rfl) (fun W' hSw => by obtain ⟨g0, g1, g2, g3, g4⟩ := (HXY0.out.below hSw).c5; go_simp) hHeld ?_
                  try simp only [Act.put, List.setIfInBounds_toArray, List.set_cons_zero, List.set_cons_succ]
                  refine wpAnyH_ready (rs := [1]) (by kernel_rfl) (by simp) (AllReadyH.cons rfl (fun K hK => ?_) AllReadyH.nil)
                  go_simp
                  go_at_call 19
                  refine (HM.out _).mono ?_
                  rintro e V1 ⟨rfl, hz⟩
                  have hh := below_trans hHeld hz
                  clear hz
                  go_simp
                  refine hK.out _ _ hh (fun hHeld => ?_)
                  clear hK
                  try simp only [Act.put, List.setIfInBounds_toArray, List.set_cons_zero, List.set_cons_succ]
                  refine takeH 2 46 (.bool false) calm_np rfl rfl (by kernel_rfl) (by kernel_rfl) (by kernel_rfl) (by rfl) (fun W' hSw => by go_simp) hHeld ?_
                  try simp only [Act.put, List.setIfInBounds_toArray, List.set_cons_zero, List.set_cons_succ]
                  refine takeH 3 47 (.bool false) calm_np rfl rfl (by kernel_rfl) (by kernel_rfl) (by kernel_rfl) (by rfl) (fun W' hSw => by go_simp) hHeld ?_
                  try simp only [Act.put, List.setIfInBounds_toArray, List.set_cons_zero, List.set_cons_succ]
                  refine takeH 4 48 (.pointer (some ⟨w.heap.size, 0, none⟩)) calm_np rfl rfl (by kernel_rfl) (by kernel_rfl) (by kernel_rfl) (by rfl) (fun W' hSw => by go_simp) hHeld ?_
                  try simp only [Act.put, List.setIfInBounds_toArray, List.set_cons_zero, List.set_cons_succ]
                  refine takeH 5 49 (.slice sa s.length cs) calm_np rfl rfl (by kernel_rfl) (by kernel_rfl) (by kernel_rfl) (by rfl) (fun W' hSw => by obtain ⟨g0, g1⟩ := (HXG2.out.below hSw).c2; go_simp) hHeld ?_
                  try simp only [Act.put, List.setIfInBounds_toArray, List.set_cons_zero, List.set_cons_succ]
                  refine takeH 6 50 (.pointer (some ⟨gy, 0, none⟩)) calm_np rfl rfl (by kernel_rfl) (by kernel_rfl) (by kernel_rfl) (by rfl) (fun W' hSw => by go_simp) hHeld ?_
                  try simp only [Act.put, List.setIfInBounds_toArray, List.set_cons_zero, List.set_cons_succ]
                  refine takeH 7 51 (.string y.f) calm_np rfl rfl (by kernel_rfl) (by kernel_rfl) (by kernel_rfl) (by rfl) (fun W' hSw => by obtain ⟨g0, g1, g2, g3, g4⟩ := (HXY0.out.below hSw).c5; go_simp) hHeld ?_
                  try simp only [Act.put, List.setIfInBounds_toArray, List.set_cons_zero, List.set_cons_succ]
                  refine wpAnyH_ready (rs := [8]) (by kernel_rfl) (by simp) (AllReadyH.cons rfl (fun K hK => ?_) AllReadyH.nil)
                  go_simp
                  go_at_call 16
                  refine (HF.out _ hHeld).mono ?_
                  rintro e V2 ⟨rfl, hz⟩
                  have hh := below_trans hHeld hz
                  clear hz
                  go_simp
                  refine hK.out _ _ hh (fun hHeld => ?_)
                  clear hK
                  try simp only [Act.put, List.setIfInBounds_toArray, List.set_cons_zero, List.set_cons_succ]
                  refine takeH 9 53 (.bool false) calm_np rfl rfl (by kernel_rfl) (by kernel_rfl) (by kernel_rfl) (by rfl) (fun W' hSw => by go_simp) hHeld ?_
                  try simp only [Act.put, List.setIfInBounds_toArray, List.set_cons_zero, List.set_cons_succ]
                  refine takeH 10 54 (.bool false) calm_np rfl rfl (by kernel_rfl) (by kernel_rfl) (by kernel_rfl) (by rfl) (fun W' hSw => by go_simp) hHeld ?_
                  try simp only [Act.put, List.setIfInBounds_toArray, List.set_cons_zero, List.set_cons_succ]
                  refine takeH 11 55 (.bool false) calm_np rfl rfl (by kernel_rfl) (by kernel_rfl) (by kernel_rfl) (by rfl) (fun W' hSw => by go_simp) hHeld ?_
                  try simp only [Act.put, List.setIfInBounds_toArray, List.set_cons_zero, List.set_cons_succ]
                  refine takeH 12 56 (.pointer (some ⟨w.heap.size, 0, none⟩)) calm_np rfl rfl (by kernel_rfl) (by kernel_rfl) (by kernel_rfl) (by rfl) (fun W' hSw => by go_simp) hHeld ?_
                  try simp only [Act.put, List.setIfInBounds_toArray, List.set_cons_zero, List.set_cons_succ]
                  refine takeH 13 57 (.slice sa s.length cs) calm_np rfl rfl (by kernel_rfl) (by kernel_rfl) (by kernel_rfl) (by rfl) (fun W' hSw => by obtain ⟨g0, g1⟩ := (HXG2.out.below hSw).c2; go_simp) hHeld ?_
                  try simp only [Act.put, List.setIfInBounds_toArray, List.set_cons_zero, List.set_cons_succ]
                  refine takeH 14 58 (.pointer (some ⟨gy, 1, none⟩)) calm_np rfl rfl (by kernel_rfl) (by kernel_rfl) (by kernel_rfl) (by rfl) (fun W' hSw => by go_simp) hHeld ?_
                  try simp only [Act.put, List.setIfInBounds_toArray, List.set_cons_zero, List.set_cons_succ]
                  refine takeH 15 59 (.string y.t) calm_np rfl rfl (by kernel_rfl) (by kernel_rfl) (by kernel_rfl) (by rfl) (fun W' hSw => by obtain ⟨g0, g1, g2, g3, g4⟩ := (HXY0.out.below hSw).c5; go_simp) hHeld ?_
                  try simp only [Act.put, List.setIfInBounds_toArray, List.set_cons_zero, List.set_cons_succ]
                  refine wpAnyH_ready (rs := [16]) (by kernel_rfl) (by simp) (AllReadyH.cons rfl (fun K hK => ?_) AllReadyH.nil)
                  go_simp
                  go_at_call 16
                  refine (HT.out _ hHeld).mono ?_
                  rintro e V3 ⟨rfl, hz⟩
                  have hh := below_trans hHeld hz
                  clear hz
                  go_simp
                  refine hK.out _ _ hh (fun hHeld => ?_)
                  clear hK
                  try simp only [Act.put, List.setIfInBounds_toArray, List.set_cons_zero, List.set_cons_succ]
                  refine takeH 17 61 (.bool true) calm_np rfl rfl (by kernel_rfl) (by kernel_rfl) (by kernel_rfl) (by rfl) (fun W' hSw => by go_simp) hHeld ?_
                  try simp only [Act.put, List.setIfInBounds_toArray, List.set_cons_zero, List.set_cons_succ]
                  refine takeH 18 62 (.bool true) calm_np rfl rfl (by kernel_rfl) (by kernel_rfl) (by kernel_rfl) (by rfl) (fun W' hSw => by go_simp) hHeld ?_
                  try simp only [Act.put, List.setIfInBounds_toArray, List.set_cons_zero, List.set_cons_succ]
                  refine takeH 19 63 (.bool true) calm_np rfl rfl (by kernel_rfl) (by kernel_rfl) (by kernel_rfl) (by rfl) (fun W' hSw => by go_simp) hHeld ?_
                  try simp only [Act.put, List.setIfInBounds_toArray, List.set_cons_zero, List.set_cons_succ]
                  refine skipH 20 64 calm_np rfl rfl (by kernel_rfl) (by kernel_rfl) (by kernel_rfl) (by rfl) hHeld ?_
                  try simp only [Act.put, List.setIfInBounds_toArray, List.set_cons_zero, List.set_cons_succ]
                  refine skipH 21 65 calm_np rfl rfl (by kernel_rfl) (by kernel_rfl) (by kernel_rfl) (by rfl) hHeld ?_
                  try simp only [Act.put, List.setIfInBounds_toArray, List.set_cons_zero, List.set_cons_succ]
                  refine skipH 22 66 calm_np rfl rfl (by kernel_rfl) (by kernel_rfl) (by kernel_rfl) (by rfl) hHeld ?_
                  try simp only [Act.put, List.setIfInBounds_toArray, List.set_cons_zero, List.set_cons_succ]
                  refine skipH 23 67 calm_np rfl rfl (by kernel_rfl) (by kernel_rfl) (by kernel_rfl) (by rfl) hHeld ?_
                  try simp only [Act.put, List.setIfInBounds_toArray, List.set_cons_zero, List.set_cons_succ]
                  refine skipH 24 68 calm_np rfl rfl (by kernel_rfl) (by kernel_rfl) (by kernel_rfl) (by rfl) hHeld ?_
                  try simp only [Act.put, List.setIfInBounds_toArray, List.set_cons_zero, List.set_cons_succ]
                  refine skipH 25 69 calm_np rfl rfl (by kernel_rfl) (by kernel_rfl) (by kernel_rfl) (by rfl) hHeld ?_
                  try simp only [Act.put, List.setIfInBounds_toArray, List.set_cons_zero, List.set_cons_succ]
                  refine skipH 26 70 calm_np rfl rfl (by kernel_rfl) (by kernel_rfl) (by kernel_rfl) (by rfl) hHeld ?_
                  try simp only [Act.put, List.setIfInBounds_toArray, List.set_cons_zero, List.set_cons_succ]
                  refine skipH 27 71 calm_np rfl rfl (by kernel_rfl) (by kernel_rfl) (by kernel_rfl) (by rfl) hHeld ?_
                  try simp only [Act.put, List.setIfInBounds_toArray, List.set_cons_zero, List.set_cons_succ]
                  refine skipH 28 72 calm_np rfl rfl (by kernel_rfl) (by kernel_rfl) (by kernel_rfl) (by rfl) hHeld ?_
                  try simp only [Act.put, List.setIfInBounds_toArray, List.set_cons_zero, List.set_cons_succ]
                  refine skipH 29 73 calm_np rfl rfl (by kernel_rfl) (by kernel_rfl) (by kernel_rfl) (by rfl) hHeld ?_
                  try simp only [Act.put, List.setIfInBounds_toArray, List.set_cons_zero, List.set_cons_succ]
                  refine skipH 30 74 calm_np rfl rfl (by kernel_rfl) (by kernel_rfl) (by kernel_rfl) (by rfl) hHeld ?_
                  try simp only [Act.put, List.setIfInBounds_toArray, List.set_cons_zero, List.set_cons_succ]
                  refine skipH 31 75 calm_np rfl rfl (by kernel_rfl) (by kernel_rfl) (by kernel_rfl) (by rfl) hHeld ?_
                  try simp only [Act.put, List.setIfInBounds_toArray, List.set_cons_zero, List.set_cons_succ]
                  refine skipH 32 76 calm_np rfl rfl (by kernel_rfl) (by kernel_rfl) (by kernel_rfl) (by rfl) hHeld ?_
                  try simp only [Act.put, List.setIfInBounds_toArray, List.set_cons_zero, List.set_cons_succ]
                  refine takeH 33 77 (.bool true) calm_np rfl rfl (by kernel_rfl) (by kernel_rfl) (by kernel_rfl) (by rfl) (fun W' hSw => by go_simp) hHeld ?_
                  try simp only [Act.put, List.setIfInBounds_toArray, List.set_cons_zero, List.set_cons_succ]
                  refine wpAnyH_done (by kernel_rfl) ?_ _
                  refine NoPanic.normal ?_
                  go_wp2_with fail
                  go_meet
                  exact ⟨.inl ⟨rfl, HNO2.out⟩, hHeld⟩
                | true =>
                  have HT := Lib.hid (fun W (hW : Below W2.heap.size W2 W) => e3 ▸ HTT.out W hW)
                  have HOK := Lib.hid (HAT.out (by unfold okS amongB; rw [e1, e2, e3]; rfl))
                  clear e1 e2 e3
                  rcases Nat.eq_zero_or_pos k with rfl | hpos
                  · clear HYE
                    refine wp_region_noPanic ?_
                    refine wp_region_held_drew (S := fun W' => Below W2.heap.size W2 W') (by kernel_rfl) (dr W2) (fun hHeld => ?_)
                    try simp only [Act.put, List.setIfInBounds_toArray, List.set_cons_zero, List.set_cons_succ]
                    refine takeH 0 44 (.agg #[.string y.f, .string y.t, .int .i64 y.r, .int .i64 y.n, .int .i64 y.d]) calm_np rfl rfl (by kernel_rfl) (by kernel_rfl) (by kernel_rfl) (by rfl) (fun W' hSw => by obtain ⟨g0, g1, g2, g3, g4⟩ := (HXY0.out.below hSw).c5; go_simp) hHeld ?_
                    try simp only [Act.put, List.setIfInBounds_toArray, List.set_cons_zero, List.set_cons_succ]
                    refine wpAnyH_ready (rs := [1]) (by kernel_rfl) (by simp) (AllReadyH.cons rfl (fun K hK => ?_) AllReadyH.nil)
                    go_simp
                    go_at_call 19
                    refine (HM.out _).mono ?_
                    rintro e V1 ⟨rfl, hz⟩
                    have hh := below_trans hHeld hz
                    clear hz
                    go_simp
                    refine hK.out _ _ hh (fun hHeld => ?_)
                    clear hK
                    try simp only [Act.put, List.setIfInBounds_toArray, List.set_cons_zero, List.set_cons_succ]
                    refine takeH 2 46 (.bool false) calm_np rfl rfl (by kernel_rfl) (by kernel_rfl) (by kernel_rfl) (by rfl) (fun W' hSw => by go_simp) hHeld ?_
                    try simp only [Act.put, List.setIfInBounds_toArray, List.set_cons_zero, List.set_cons_succ]
                    refine takeH 3 47 (.bool false) calm_np rfl rfl (by kernel_rfl) (by kernel_rfl) (by kernel_rfl) (by rfl) (fun W' hSw => by go_simp) hHeld ?_
                    try simp only [Act.put, List.setIfInBounds_toArray, List.set_cons_zero, List.set_cons_succ]
                    refine takeH 4 48 (.pointer (some ⟨w.heap.size, 0, none⟩)) calm_np rfl rfl (by kernel_rfl) (by kernel_rfl) (by kernel_rfl) (by rfl) (fun W' hSw => by go_simp) hHeld ?_
                    try simp only [Act.put, List.setIfInBounds_toArray, List.set_cons_zero, List.set_cons_succ]
                    refine takeH 5 49 (.slice sa s.length cs) calm_np rfl rfl (by kernel_rfl) (by kernel_rfl) (by kernel_rfl) (by rfl) (fun W' hSw => by obtain ⟨g0, g1⟩ := (HXG2.out.below hSw).c2; go_simp) hHeld ?_
                    try simp only [Act.put, List.setIfInBounds_toArray, List.set_cons_zero, List.set_cons_succ]
                    refine takeH 6 50 (.pointer (some ⟨gy, 0, none⟩)) calm_np rfl rfl (by kernel_rfl) (by kernel_rfl) (by kernel_rfl) (by rfl) (fun W' hSw => by go_simp) hHeld ?_
                    try simp only [Act.put, List.setIfInBounds_toArray, List.set_cons_zero, List.set_cons_succ]
                    refine takeH 7 51 (.string y.f) calm_np rfl rfl (by kernel_rfl) (by kernel_rfl) (by kernel_rfl) (by rfl) (fun W' hSw => by obtain ⟨g0, g1, g2, g3, g4⟩ := (HXY0.out.below hSw).c5; go_simp) hHeld ?_
                    try simp only [Act.put, List.setIfInBounds_toArray, List.set_cons_zero, List.set_cons_succ]
                    refine wpAnyH_ready (rs := [8]) (by kernel_rfl) (by simp) (AllReadyH.cons rfl (fun K hK => ?_) AllReadyH.nil)
                    go_simp
                    go_at_call 16
                    refine (HF.out _ hHeld).mono ?_
                    rintro e V2 ⟨rfl, hz⟩
                    have hh := below_trans hHeld hz
                    clear hz
                    go_simp
                    refine hK.out _ _ hh (fun hHeld => ?_)
                    clear hK
                    try simp only [Act.put, List.setIfInBounds_toArray, List.set_cons_zero, List.set_cons_succ]
                    refine takeH 9 53 (.bool false) calm_np rfl rfl (by kernel_rfl) (by kernel_rfl) (by kernel_rfl) (by rfl) (fun W' hSw => by go_simp) hHeld ?_
                    try simp only [Act.put, List.setIfInBounds_toArray, List.set_cons_zero, List.set_cons_succ]
                    refine takeH 10 54 (.bool false) calm_np rfl rfl (by kernel_rfl) (by kernel_rfl) (by kernel_rfl) (by rfl) (fun W' hSw => by go_simp) hHeld ?_
                    try simp only [Act.put, List.setIfInBounds_toArray, List.set_cons_zero, List.set_cons_succ]
                    refine takeH 11 55 (.bool false) calm_np rfl rfl (by kernel_rfl) (by kernel_rfl) (by kernel_rfl) (by rfl) (fun W' hSw => by go_simp) hHeld ?_
                    try simp only [Act.put, List.setIfInBounds_toArray, List.set_cons_zero, List.set_cons_succ]
                    refine takeH 12 56 (.pointer (some ⟨w.heap.size, 0, none⟩)) calm_np rfl rfl (by kernel_rfl) (by kernel_rfl) (by kernel_rfl) (by rfl) (fun W' hSw => by go_simp) hHeld ?_
                    try simp only [Act.put, List.setIfInBounds_toArray, List.set_cons_zero, List.set_cons_succ]
                    refine takeH 13 57 (.slice sa s.length cs) calm_np rfl rfl (by kernel_rfl) (by kernel_rfl) (by kernel_rfl) (by rfl) (fun W' hSw => by obtain ⟨g0, g1⟩ := (HXG2.out.below hSw).c2; go_simp) hHeld ?_
                    try simp only [Act.put, List.setIfInBounds_toArray, List.set_cons_zero, List.set_cons_succ]
                    refine takeH 14 58 (.pointer (some ⟨gy, 1, none⟩)) calm_np rfl rfl (by kernel_rfl) (by kernel_rfl) (by kernel_rfl) (by rfl) (fun W' hSw => by go_simp) hHeld ?_
                    try simp only [Act.put, List.setIfInBounds_toArray, List.set_cons_zero, List.set_cons_succ]
                    refine takeH 15 59 (.string y.t) calm_np rfl rfl (by kernel_rfl) (by kernel_rfl) (by kernel_rfl) (by rfl) (fun W' hSw => by obtain ⟨g0, g1, g2, g3, g4⟩ := (HXY0.out.below hSw).c5; go_simp) hHeld ?_
                    try simp only [Act.put, List.setIfInBounds_toArray, List.set_cons_zero, List.set_cons_succ]
                    refine wpAnyH_ready (rs := [16]) (by kernel_rfl) (by simp) (AllReadyH.cons rfl (fun K hK => ?_) AllReadyH.nil)
                    go_simp
                    go_at_call 16
                    refine (HT.out _ hHeld).mono ?_
                    rintro e V3 ⟨rfl, hz⟩
                    have hh := below_trans hHeld hz
                    clear hz
                    go_simp
                    refine hK.out _ _ hh (fun hHeld => ?_)
                    clear hK
                    try simp only [Act.put, List.setIfInBounds_toArray, List.set_cons_zero, List.set_cons_succ]
                    refine takeH 17 61 (.bool false) calm_np rfl rfl (by kernel_rfl) (by kernel_rfl) (by kernel_rfl) (by rfl) (fun W' hSw => by go_simp) hHeld ?_
                    try simp only [Act.put, List.setIfInBounds_toArray, List.set_cons_zero, List.set_cons_succ]
                    refine takeH 18 62 (.bool false) calm_np rfl rfl (by kernel_rfl) (by kernel_rfl) (by kernel_rfl) (by rfl) (fun W' hSw => by go_simp) hHeld ?_
                    try simp only [Act.put, List.setIfInBounds_toArray, List.set_cons_zero, List.set_cons_succ]
                    refine takeH 19 63 (.bool false) calm_np rfl rfl (by kernel_rfl) (by kernel_rfl) (by kernel_rfl) (by rfl) (fun W' hSw => by go_simp) hHeld ?_
                    try simp only [Act.put, List.setIfInBounds_toArray, List.set_cons_zero, List.set_cons_succ]
                    refine takeH 20 64 (.int .i64 0) calm_np rfl rfl (by kernel_rfl) (by kernel_rfl) (by kernel_rfl) (by rfl) (fun W' hSw => by go_simp) hHeld ?_
                    try simp only [Act.put, List.setIfInBounds_toArray, List.set_cons_zero, List.set_cons_succ]
                    refine takeH 21 65 (.bool false) calm_np rfl rfl (by kernel_rfl) (by kernel_rfl) (by kernel_rfl) (by rfl) (fun W' hSw => by go_simp) hHeld ?_
                    try simp only [Act.put, List.setIfInBounds_toArray, List.set_cons_zero, List.set_cons_succ]
                    refine takeH 22 66 (.bool false) calm_np rfl rfl (by kernel_rfl) (by kernel_rfl) (by kernel_rfl) (by rfl) (fun W' hSw => by go_simp) hHeld ?_
                    try simp only [Act.put, List.setIfInBounds_toArray, List.set_cons_zero, List.set_cons_succ]
                    refine skipH 23 67 calm_np rfl rfl (by kernel_rfl) (by kernel_rfl) (by kernel_rfl) (by rfl) hHeld ?_
                    try simp only [Act.put, List.setIfInBounds_toArray, List.set_cons_zero, List.set_cons_succ]
                    refine skipH 24 68 calm_np rfl rfl (by kernel_rfl) (by kernel_rfl) (by kernel_rfl) (by rfl) hHeld ?_
                    try simp only [Act.put, List.setIfInBounds_toArray, List.set_cons_zero, List.set_cons_succ]
                    refine skipH 25 69 calm_np rfl rfl (by kernel_rfl) (by kernel_rfl) (by kernel_rfl) (by rfl) hHeld ?_
                    try simp only [Act.put, List.setIfInBounds_toArray, List.set_cons_zero, List.set_cons_succ]
                    refine skipH 26 70 calm_np rfl rfl (by kernel_rfl) (by kernel_rfl) (by kernel_rfl) (by rfl) hHeld ?_
                    try simp only [Act.put, List.setIfInBounds_toArray, List.set_cons_zero, List.set_cons_succ]
                    refine skipH 27 71 calm_np rfl rfl (by kernel_rfl) (by kernel_rfl) (by kernel_rfl) (by rfl) hHeld ?_
                    try simp only [Act.put, List.setIfInBounds_toArray, List.set_cons_zero, List.set_cons_succ]
                    refine skipH 28 72 calm_np rfl rfl (by kernel_rfl) (by kernel_rfl) (by kernel_rfl) (by rfl) hHeld ?_
                    try simp only [Act.put, List.setIfInBounds_toArray, List.set_cons_zero, List.set_cons_succ]
                    refine skipH 29 73 calm_np rfl rfl (by kernel_rfl) (by kernel_rfl) (by kernel_rfl) (by rfl) hHeld ?_
                    try simp only [Act.put, List.setIfInBounds_toArray, List.set_cons_zero, List.set_cons_succ]
                    refine skipH 30 74 calm_np rfl rfl (by kernel_rfl) (by kernel_rfl) (by kernel_rfl) (by rfl) hHeld ?_
                    try simp only [Act.put, List.setIfInBounds_toArray, List.set_cons_zero, List.set_cons_succ]
                    refine skipH 31 75 calm_np rfl rfl (by kernel_rfl) (by kernel_rfl) (by kernel_rfl) (by rfl) hHeld ?_
                    try simp only [Act.put, List.setIfInBounds_toArray, List.set_cons_zero, List.set_cons_succ]
                    refine takeH 32 76 (.bool false) calm_np rfl rfl (by kernel_rfl) (by kernel_rfl) (by kernel_rfl) (by rfl) (fun W' hSw => by go_simp) hHeld ?_
                    try simp only [Act.put, List.setIfInBounds_toArray, List.set_cons_zero, List.set_cons_succ]
                    refine takeH 33 77 (.bool false) calm_np rfl rfl (by kernel_rfl) (by kernel_rfl) (by kernel_rfl) (by rfl) (fun W' hSw => by go_simp) hHeld ?_
                    try simp only [Act.put, List.setIfInBounds_toArray, List.set_cons_zero, List.set_cons_succ]
                    refine wpAnyH_done (by kernel_rfl) ?_ _
                    refine NoPanic.normal ?_
                    go_wp2_with fail
                    go_meet
                    exact ⟨.inr ⟨rfl, HOK.out, fun _ _ h => by omega⟩, hHeld⟩
                  · obtain ⟨q, rfl⟩ : ∃ q, k = q + 1 := ⟨k - 1, by omega⟩
                    have hq : q < l.length := by omega
                    have HUP : Hid (belowB l[q] y = true → Upto belowB l (q + 1 + 1)) := Lib.hid fun e => upto_succ (lt := belowB) HR.out.2.1 (by omega) hlt2 (by simp only [Nat.add_sub_cancel]; rw [← HYE.out]; exact e)
                    have HNB : Hid (belowB l[q] y = false → rightB s l = false) := Lib.hid fun e => right_below (by omega : 1 ≤ q + 1) hlt2 (by simp only [Nat.add_sub_cancel]; rw [← HYE.out]; exact e)
                    have ha := fun W => refAbove_any y l[q] HSYY.out (HS4.out _ (List.getElem_mem hq)) W
                    have HPC := Lib.hid (fun W' (hW : Below W2.heap.size W2 W') => HPR.out q hq W' hW)
                    have c2 : IntKind.i64.wrap (q : Int) = q := IntWalk.i64_in _ (by omega)
                    have c3 : (0 : Int) ≤ q := by omega
                    have c4 : (q : Int) < l.length := by omega
                    unfold sv at ha
                    generalize l[q] = p at *
                    clear HYE
                    cases e4 : belowB p y with
                    | true =>
                      have HA := Lib.hid (fun W => e4 ▸ ha W)
                      have HUP2 := Lib.hid (HUP.out e4)
                      clear e4 ha
                      refine wp_region_noPanic ?_
                      refine wp_region_held_drew (S := fun W' => Below W2.heap.size W2 W') (by kernel_rfl) (dr W2) (fun hHeld => ?_)
                      try simp only [Act.put, List.setIfInBounds_toArray, List.set_cons_zero, List.set_cons_succ]
                      refine takeH 0 44 (.agg #[.string y.f, .string y.t, .int .i64 y.r, .int .i64 y.n, .int .i64 y.d]) calm_np rfl rfl (by kernel_rfl) (by kernel_rfl) (by kernel_rfl) (by rfl) (fun W' hSw => by obtain ⟨g0, g1, g2, g3, g4⟩ := (HXY0.out.below hSw).c5; go_simp) hHeld ?_
                      try simp only [Act.put, List.setIfInBounds_toArray, List.set_cons_zero, List.set_cons_succ]
                      refine wpAnyH_ready (rs := [1]) (by kernel_rfl) (by simp) (AllReadyH.cons rfl (fun K hK => ?_) AllReadyH.nil)
                      go_simp
                      go_at_call 19
                      refine (HM.out _).mono ?_
                      rintro e V1 ⟨rfl, hz⟩
                      have hh := below_trans hHeld hz
                      clear hz
                      go_simp
                      refine hK.out _ _ hh (fun hHeld => ?_)
                      clear hK
                      try simp only [Act.put, List.setIfInBounds_toArray, List.set_cons_zero, List.set_cons_succ]
                      refine takeH 2 46 (.bool false) calm_np rfl rfl (by kernel_rfl) (by kernel_rfl) (by kernel_rfl) (by rfl) (fun W' hSw => by go_simp) hHeld ?_
                      try simp only [Act.put, List.setIfInBounds_toArray, List.set_cons_zero, List.set_cons_succ]
                      refine takeH 3 47 (.bool false) calm_np rfl rfl (by kernel_rfl) (by kernel_rfl) (by kernel_rfl) (by rfl) (fun W' hSw => by go_simp) hHeld ?_
                      try simp only [Act.put, List.setIfInBounds_toArray, List.set_cons_zero, List.set_cons_succ]
                      refine takeH 4 48 (.pointer (some ⟨w.heap.size, 0, none⟩)) calm_np rfl rfl (by kernel_rfl) (by kernel_rfl) (by kernel_rfl) (by rfl) (fun W' hSw => by go_simp) hHeld ?_
                      try simp only [Act.put, List.setIfInBounds_toArray, List.set_cons_zero, List.set_cons_succ]
                      refine takeH 5 49 (.slice sa s.length cs) calm_np rfl rfl (by kernel_rfl) (by kernel_rfl) (by kernel_rfl) (by rfl) (fun W' hSw => by obtain ⟨g0, g1⟩ := (HXG2.out.below hSw).c2; go_simp) hHeld ?_
                      try simp only [Act.put, List.setIfInBounds_toArray, List.set_cons_zero, List.set_cons_succ]
                      refine takeH 6 50 (.pointer (some ⟨gy, 0, none⟩)) calm_np rfl rfl (by kernel_rfl) (by kernel_rfl) (by kernel_rfl) (by rfl) (fun W' hSw => by go_simp) hHeld ?_
                      try simp only [Act.put, List.setIfInBounds_toArray, List.set_cons_zero, List.set_cons_succ]
                      refine takeH 7 51 (.string y.f) calm_np rfl rfl (by kernel_rfl) (by kernel_rfl) (by kernel_rfl) (by rfl) (fun W' hSw => by obtain ⟨g0, g1, g2, g3, g4⟩ := (HXY0.out.below hSw).c5; go_simp) hHeld ?_
                      try simp only [Act.put, List.setIfInBounds_toArray, List.set_cons_zero, List.set_cons_succ]
                      refine wpAnyH_ready (rs := [8]) (by kernel_rfl) (by simp) (AllReadyH.cons rfl (fun K hK => ?_) AllReadyH.nil)
                      go_simp
                      go_at_call 16
                      refine (HF.out _ hHeld).mono ?_
                      rintro e V2 ⟨rfl, hz⟩
                      have hh := below_trans hHeld hz
                      clear hz
                      go_simp
                      refine hK.out _ _ hh (fun hHeld => ?_)
                      clear hK
                      try simp only [Act.put, List.setIfInBounds_toArray, List.set_cons_zero, List.set_cons_succ]
                      refine takeH 9 53 (.bool false) calm_np rfl rfl (by kernel_rfl) (by kernel_rfl) (by kernel_rfl) (by rfl) (fun W' hSw => by go_simp) hHeld ?_
                      try simp only [Act.put, List.setIfInBounds_toArray, List.set_cons_zero, List.set_cons_succ]
                      refine takeH 10 54 (.bool false) calm_np rfl rfl (by kernel_rfl) (by kernel_rfl) (by kernel_rfl) (by rfl) (fun W' hSw => by go_simp) hHeld ?_
                      try simp only [Act.put, List.setIfInBounds_toArray, List.set_cons_zero, List.set_cons_succ]
                      refine takeH 11 55 (.bool false) calm_np rfl rfl (by kernel_rfl) (by kernel_rfl) (by kernel_rfl) (by rfl) (fun W' hSw => by go_simp) hHeld ?_
                      try simp only [Act.put, List.setIfInBounds_toArray, List.set_cons_zero, List.set_cons_succ]
                      refine takeH 12 56 (.pointer (some ⟨w.heap.size, 0, none⟩)) calm_np rfl rfl (by kernel_rfl) (by kernel_rfl) (by kernel_rfl) (by rfl) (fun W' hSw => by go_simp) hHeld ?_
                      try simp only [Act.put, List.setIfInBounds_toArray, List.set_cons_zero, List.set_cons_succ]
                      refine takeH 13 57 (.slice sa s.length cs) calm_np rfl rfl (by kernel_rfl) (by kernel_rfl) (by kernel_rfl) (by rfl) (fun W' hSw => by obtain ⟨g0, g1⟩ := (HXG2.out.below hSw).c2; go_simp) hHeld ?_
                      try simp only [Act.put, List.setIfInBounds_toArray, List.set_cons_zero, List.set_cons_succ]
                      refine takeH 14 58 (.pointer (some ⟨gy, 1, none⟩)) calm_np rfl rfl (by kernel_rfl) (by kernel_rfl) (by kernel_rfl) (by rfl) (fun W' hSw => by go_simp) hHeld ?_
                      try simp only [Act.put, List.setIfInBounds_toArray, List.set_cons_zero, List.set_cons_succ]
                      refine takeH 15 59 (.string y.t) calm_np rfl rfl (by kernel_rfl) (by kernel_rfl) (by kernel_rfl) (by rfl) (fun W' hSw => by obtain ⟨g0, g1, g2, g3, g4⟩ := (HXY0.out.below hSw).c5; go_simp) hHeld ?_
                      try simp only [Act.put, List.setIfInBounds_toArray, List.set_cons_zero, List.set_cons_succ]
                      refine wpAnyH_ready (rs := [16]) (by kernel_rfl) (by simp) (AllReadyH.cons rfl (fun K hK => ?_) AllReadyH.nil)
                      go_simp
                      go_at_call 16
                      refine (HT.out _ hHeld).mono ?_
                      rintro e V3 ⟨rfl, hz⟩
                      have hh := below_trans hHeld hz
                      clear hz
                      go_simp
                      refine hK.out _ _ hh (fun hHeld => ?_)
                      clear hK
                      try simp only [Act.put, List.setIfInBounds_toArray, List.set_cons_zero, List.set_cons_succ]
                      refine takeH 17 61 (.bool false) calm_np rfl rfl (by kernel_rfl) (by kernel_rfl) (by kernel_rfl) (by rfl) (fun W' hSw => by go_simp) hHeld ?_
                      try simp only [Act.put, List.setIfInBounds_toArray, List.set_cons_zero, List.set_cons_succ]
                      refine takeH 18 62 (.bool false) calm_np rfl rfl (by kernel_rfl) (by kernel_rfl) (by kernel_rfl) (by rfl) (fun W' hSw => by go_simp) hHeld ?_
                      try simp only [Act.put, List.setIfInBounds_toArray, List.set_cons_zero, List.set_cons_succ]
                      refine takeH 19 63 (.bool false) calm_np rfl rfl (by kernel_rfl) (by kernel_rfl) (by kernel_rfl) (by rfl) (fun W' hSw => by go_simp) hHeld ?_
                      try simp only [Act.put, List.setIfInBounds_toArray, List.set_cons_zero, List.set_cons_succ]
                      refine takeH 20 64 (.int .i64 ((q : Int) + 1)) calm_np rfl rfl (by kernel_rfl) (by kernel_rfl) (by kernel_rfl) (by rfl) (fun W' hSw => by go_simp) hHeld ?_
                      try simp only [Act.put, List.setIfInBounds_toArray, List.set_cons_zero, List.set_cons_succ]
                      refine takeH 21 65 (.bool true) calm_np rfl rfl (by kernel_rfl) (by kernel_rfl) (by kernel_rfl) (by rfl) (fun W' hSw => by go_simp) hHeld ?_
                      try simp only [Act.put, List.setIfInBounds_toArray, List.set_cons_zero, List.set_cons_succ]
                      refine takeH 22 66 (.bool true) calm_np rfl rfl (by kernel_rfl) (by kernel_rfl) (by kernel_rfl) (by rfl) (fun W' hSw => by go_simp) hHeld ?_
                      try simp only [Act.put, List.setIfInBounds_toArray, List.set_cons_zero, List.set_cons_succ]
                      refine takeH 23 67 (.agg #[.string y.f, .string y.t, .int .i64 y.r, .int .i64 y.n, .int .i64 y.d]) calm_np rfl rfl (by kernel_rfl) (by kernel_rfl) (by kernel_rfl) (by rfl) (fun W' hSw => by obtain ⟨g0, g1, g2, g3, g4⟩ := (HXY0.out.below hSw).c5; go_simp) hHeld ?_
                      try simp only [Act.put, List.setIfInBounds_toArray, List.set_cons_zero, List.set_cons_succ]
                      refine takeH 24 68 (.pointer (some ⟨w.heap.size, 1, none⟩)) calm_np rfl rfl (by kernel_rfl) (by kernel_rfl) (by kernel_rfl) (by rfl) (fun W' hSw => by go_simp) hHeld ?_
                      try simp only [Act.put, List.setIfInBounds_toArray, List.set_cons_zero, List.set_cons_succ]
                      refine takeH 25 69 (.slice (some ⟨b, off, none⟩) l.length cl) calm_np rfl rfl (by kernel_rfl) (by kernel_rfl) (by kernel_rfl) (by rfl) (fun W' hSw => by obtain ⟨g0, g1⟩ := (HXG2.out.below hSw).c2; go_simp) hHeld ?_
                      try simp only [Act.put, List.setIfInBounds_toArray, List.set_cons_zero, List.set_cons_succ]
                      refine takeH 26 70 (.int .i64 ((q : Int) + 1)) calm_np rfl rfl (by kernel_rfl) (by kernel_rfl) (by kernel_rfl) (by rfl) (fun W' hSw => by go_simp) hHeld ?_
                      try simp only [Act.put, List.setIfInBounds_toArray, List.set_cons_zero, List.set_cons_succ]
                      refine takeH 27 71 (.int .i64 (q : Int)) calm_np rfl rfl (by kernel_rfl) (by kernel_rfl) (by kernel_rfl) (by rfl) (fun W' hSw => by go_simp) hHeld ?_
                      try simp only [Act.put, List.setIfInBounds_toArray, List.set_cons_zero, List.set_cons_succ]
                      refine takeH 28 72 (.pointer (some ⟨b, off + q * 5, none⟩)) calm_np rfl rfl (by kernel_rfl) (by kernel_rfl) (by kernel_rfl) (by rfl) (fun W' hSw => by go_simp) hHeld ?_
                      try simp only [Act.put, List.setIfInBounds_toArray, List.set_cons_zero, List.set_cons_succ]
                      refine takeH 29 73 (.agg #[.string p.f, .string p.t, .int .i64 p.r, .int .i64 p.n, .int .i64 p.d]) calm_np rfl rfl (by kernel_rfl) (by kernel_rfl) (by kernel_rfl) (by rfl) (fun W' hSw => by obtain ⟨g0, g1, g2, g3, g4⟩ := HPC.out W' hSw; go_simp) hHeld ?_
                      try simp only [Act.put, List.setIfInBounds_toArray, List.set_cons_zero, List.set_cons_succ]
                      refine wpAnyH_ready (rs := [30]) (by kernel_rfl) (by simp) (AllReadyH.cons rfl (fun K hK => ?_) AllReadyH.nil)
                      go_simp
                      go_at_call 41
                      refine (HA.out _).mono ?_
                      rintro e V4 ⟨rfl, hz⟩
                      have hh := below_trans hHeld hz
                      clear hz
                      go_simp
                      refine hK.out _ _ hh (fun hHeld => ?_)
                      clear hK
                      try simp only [Act.put, List.setIfInBounds_toArray, List.set_cons_zero, List.set_cons_succ]
                      refine takeH 31 75 (.bool false) calm_np rfl rfl (by kernel_rfl) (by kernel_rfl) (by kernel_rfl) (by rfl) (fun W' hSw => by go_simp) hHeld ?_
                      try simp only [Act.put, List.setIfInBounds_toArray, List.set_cons_zero, List.set_cons_succ]
                      refine takeH 32 76 (.bool false) calm_np rfl rfl (by kernel_rfl) (by kernel_rfl) (by kernel_rfl) (by rfl) (fun W' hSw => by go_simp) hHeld ?_
                      try simp only [Act.put, List.setIfInBounds_toArray, List.set_cons_zero, List.set_cons_succ]
                      refine takeH 33 77 (.bool false) calm_np rfl rfl (by kernel_rfl) (by kernel_rfl) (by kernel_rfl) (by rfl) (fun W' hSw => by go_simp) hHeld ?_
                      try simp only [Act.put, List.setIfInBounds_toArray, List.set_cons_zero, List.set_cons_succ]
                      refine wpAnyH_done (by kernel_rfl) ?_ _
                      refine NoPanic.normal ?_
                      go_wp2_with fail
                      go_meet
                      exact ⟨.inr ⟨rfl, HOK.out, HUP2.out⟩, hHeld⟩
                    | false =>
                      have HA := Lib.hid (fun W => e4 ▸ ha W)
                      have HNO2 := Lib.hid (HNB.out e4)
                      clear e4 ha
                      refine wp_region_noPanic ?_
                      refine wp_region_held_drew (S := fun W' => Below W2.heap.size W2 W') (by kernel_rfl) (dr W2) (fun hHeld => ?_)
                      try simp only [Act.put, List.setIfInBounds_toArray, List.set_cons_zero, List.set_cons_succ]
                      refine takeH 0 44 (.agg #[.string y.f, .string y.t, .int .i64 y.r, .int .i64 y.n, .int .i64 y.d]) calm_np rfl rfl (by kernel_rfl) (by kernel_rfl) (by kernel_rfl) (by rfl) (fun W' hSw => by obtain ⟨g0, g1, g2, g3, g4⟩ := (HXY0.out.below hSw).c5; go_simp) hHeld ?_
                      try simp only [Act.put, List.setIfInBounds_toArray, List.set_cons_zero, List.set_cons_succ]
                      refine wpAnyH_ready (rs := [1]) (by kernel_rfl) (by simp) (AllReadyH.cons rfl (fun K hK => ?_) AllReadyH.nil)
                      go_simp
                      go_at_call 19
                      refine (HM.out _).mono ?_
                      rintro e V1 ⟨rfl, hz⟩
                      have hh := below_trans hHeld hz
                      clear hz
                      go_simp
                      refine hK.out _ _ hh (fun hHeld => ?_)
                      clear hK
                      try simp only [Act.put, List.setIfInBounds_toArray, List.set_cons_zero, List.set_cons_succ]
                      refine takeH 2 46 (.bool false) calm_np rfl rfl (by kernel_rfl) (by kernel_rfl) (by kernel_rfl) (by rfl) (fun W' hSw => by go_simp) hHeld ?_
                      try simp only [Act.put, List.setIfInBounds_toArray, List.set_cons_zero, List.set_cons_succ]
                      refine takeH 3 47 (.bool false) calm_np rfl rfl (by kernel_rfl) (by kernel_rfl) (by kernel_rfl) (by rfl) (fun W' hSw => by go_simp) hHeld ?_
                      try simp only [Act.put, List.setIfInBounds_toArray, List.set_cons_zero, List.set_cons_succ]
                      refine takeH 4 48 (.pointer (some ⟨w.heap.size, 0, none⟩)) calm_np rfl rfl (by kernel_rfl) (by kernel_rfl) (by kernel_rfl) (by rfl) (fun W' hSw => by go_simp) hHeld ?_
                      try simp only [Act.put, List.setIfInBounds_toArray, List.set_cons_zero, List.set_cons_succ]
                      refine takeH 5 49 (.slice sa s.length cs) calm_np rfl rfl (by kernel_rfl) (by kernel_rfl) (by kernel_rfl) (by rfl) (fun W' hSw => by obtain ⟨g0, g1⟩ := (HXG2.out.below hSw).c2; go_simp) hHeld ?_
                      try simp only [Act.put, List.setIfInBounds_toArray, List.set_cons_zero, List.set_cons_succ]
                      refine takeH 6 50 (.pointer (some ⟨gy, 0, none⟩)) calm_np rfl rfl (by kernel_rfl) (by kernel_rfl) (by kernel_rfl) (by rfl) (fun W' hSw => by go_simp) hHeld ?_
                      try simp only [Act.put, List.setIfInBounds_toArray, List.set_cons_zero, List.set_cons_succ]
                      refine takeH 7 51 (.string y.f) calm_np rfl rfl (by kernel_rfl) (by kernel_rfl) (by kernel_rfl) (by rfl) (fun W' hSw => by obtain ⟨g0, g1, g2, g3, g4⟩ := (HXY0.out.below hSw).c5; go_simp) hHeld ?_
                      try simp only [Act.put, List.setIfInBounds_toArray, List.set_cons_zero, List.set_cons_succ]
                      refine wpAnyH_ready (rs := [8]) (by kernel_rfl) (by simp) (AllReadyH.cons rfl (fun K hK => ?_) AllReadyH.nil)
                      go_simp
                      go_at_call 16
                      refine (HF.out _ hHeld).mono ?_
                      rintro e V2 ⟨rfl, hz⟩
                      have hh := below_trans hHeld hz
                      clear hz
                      go_simp
                      refine hK.out _ _ hh (fun hHeld => ?_)
                      clear hK
                      try simp only [Act.put, List.setIfInBounds_toArray, List.set_cons_zero, List.set_cons_succ]
                      refine takeH 9 53 (.bool false) calm_np rfl rfl (by kernel_rfl) (by kernel_rfl) (by kernel_rfl) (by rfl) (fun W' hSw => by go_simp) hHeld ?_
                      try simp only [Act.put, List.setIfInBounds_toArray, List.set_cons_zero, List.set_cons_succ]
                      refine takeH 10 54 (.bool false) calm_np rfl rfl (by kernel_rfl) (by kernel_rfl) (by kernel_rfl) (by rfl) (fun W' hSw => by go_simp) hHeld ?_
                      try simp only [Act.put, List.setIfInBounds_toArray, List.set_cons_zero, List.set_cons_succ]
                      refine takeH 11 55 (.bool false) calm_np rfl rfl (by kernel_rfl) (by kernel_rfl) (by kernel_rfl) (by rfl) (fun W' hSw => by go_simp) hHeld ?_
                      try simp only [Act.put, List.setIfInBounds_toArray, List.set_cons_zero, List.set_cons_succ]
                      refine takeH 12 56 (.pointer (some ⟨w.heap.size, 0, none⟩)) calm_np rfl rfl (by kernel_rfl) (by kernel_rfl) (by kernel_rfl) (by rfl) (fun W' hSw => by go_simp) hHeld ?_
                      try simp only [Act.put, List.setIfInBounds_toArray, List.set_cons_zero, List.set_cons_succ]
                      refine takeH 13 57 (.slice sa s.length cs) calm_np rfl rfl (by kernel_rfl) (by kernel_rfl) (by kernel_rfl) (by rfl) (fun W' hSw => by obtain ⟨g0, g1⟩ := (HXG2.out.below hSw).c2; go_simp) hHeld ?_
                      try simp only [Act.put, List.setIfInBounds_toArray, List.set_cons_zero, List.set_cons_succ]
                      refine takeH 14 58 (.pointer (some ⟨gy, 1, none⟩)) calm_np rfl rfl (by kernel_rfl) (by kernel_rfl) (by kernel_rfl) (by rfl) (fun W' hSw => by go_simp) hHeld ?_
                      try simp only [Act.put, List.setIfInBounds_toArray, List.set_cons_zero, List.set_cons_succ]
                      refine takeH 15 59 (.string y.t) calm_np rfl rfl (by kernel_rfl) (by kernel_rfl) (by kernel_rfl) (by rfl) (fun W' hSw => by obtain ⟨g0, g1, g2, g3, g4⟩ := (HXY0.out.below hSw).c5; go_simp) hHeld ?_
                      try simp only [Act.put, List.setIfInBounds_toArray, List.set_cons_zero, List.set_cons_succ]
                      refine wpAnyH_ready (rs := [16]) (by kernel_rfl) (by simp) (AllReadyH.cons rfl (fun K hK => ?_) AllReadyH.nil)
                      go_simp
                      go_at_call 16
                      refine (HT.out _ hHeld).mono ?_
                      rintro e V3 ⟨rfl, hz⟩
                      have hh := below_trans hHeld hz
                      clear hz
                      go_simp
                      refine hK.out _ _ hh (fun hHeld => ?_)
                      clear hK
                      try simp only [Act.put, List.setIfInBounds_toArray, List.set_cons_zero, List.set_cons_succ]
                      refine takeH 17 61 (.bool false) calm_np rfl rfl (by kernel_rfl) (by kernel_rfl) (by kernel_rfl) (by rfl) (fun W' hSw => by go_simp) hHeld ?_
                      try simp only [Act.put, List.setIfInBounds_toArray, List.set_cons_zero, List.set_cons_succ]
                      refine takeH 18 62 (.bool false) calm_np rfl rfl (by kernel_rfl) (by kernel_rfl) (by kernel_rfl) (by rfl) (fun W' hSw => by go_simp) hHeld ?_
                      try simp only [Act.put, List.setIfInBounds_toArray, List.set_cons_zero, List.set_cons_succ]
                      refine takeH 19 63 (.bool false) calm_np rfl rfl (by kernel_rfl) (by kernel_rfl) (by kernel_rfl) (by rfl) (fun W' hSw => by go_simp) hHeld ?_
                      try simp only [Act.put, List.setIfInBounds_toArray, List.set_cons_zero, List.set_cons_succ]
                      refine takeH 20 64 (.int .i64 ((q : Int) + 1)) calm_np rfl rfl (by kernel_rfl) (by kernel_rfl) (by kernel_rfl) (by rfl) (fun W' hSw => by go_simp) hHeld ?_
                      try simp only [Act.put, List.setIfInBounds_toArray, List.set_cons_zero, List.set_cons_succ]
                      refine takeH 21 65 (.bool true) calm_np rfl rfl (by kernel_rfl) (by kernel_rfl) (by kernel_rfl) (by rfl) (fun W' hSw => by go_simp) hHeld ?_
                      try simp only [Act.put, List.setIfInBounds_toArray, List.set_cons_zero, List.set_cons_succ]
                      refine takeH 22 66 (.bool true) calm_np rfl rfl (by kernel_rfl) (by kernel_rfl) (by kernel_rfl) (by rfl) (fun W' hSw => by go_simp) hHeld ?_
                      try simp only [Act.put, List.setIfInBounds_toArray, List.set_cons_zero, List.set_cons_succ]
                      refine takeH 23 67 (.agg #[.string y.f, .string y.t, .int .i64 y.r, .int .i64 y.n, .int .i64 y.d]) calm_np rfl rfl (by kernel_rfl) (by kernel_rfl) (by kernel_rfl) (by rfl) (fun W' hSw => by obtain ⟨g0, g1, g2, g3, g4⟩ := (HXY0.out.below hSw).c5; go_simp) hHeld ?_
                      try simp only [Act.put, List.setIfInBounds_toArray, List.set_cons_zero, List.set_cons_succ]
                      refine takeH 24 68 (.pointer (some ⟨w.heap.size, 1, none⟩)) calm_np rfl rfl (by kernel_rfl) (by kernel_rfl) (by kernel_rfl) (by rfl) (fun W' hSw => by go_simp) hHeld ?_
                      try simp only [Act.put, List.setIfInBounds_toArray, List.set_cons_zero, List.set_cons_succ]
                      refine takeH 25 69 (.slice (some ⟨b, off, none⟩) l.length cl) calm_np rfl rfl (by kernel_rfl) (by kernel_rfl) (by kernel_rfl) (by rfl) (fun W' hSw => by obtain ⟨g0, g1⟩ := (HXG2.out.below hSw).c2; go_simp) hHeld ?_
                      try simp only [Act.put, List.setIfInBounds_toArray, List.set_cons_zero, List.set_cons_succ]
                      refine takeH 26 70 (.int .i64 ((q : Int) + 1)) calm_np rfl rfl (by kernel_rfl) (by kernel_rfl) (by kernel_rfl) (by rfl) (fun W' hSw => by go_simp) hHeld ?_
                      try simp only [Act.put, List.setIfInBounds_toArray, List.set_cons_zero, List.set_cons_succ]
                      refine takeH 27 71 (.int .i64 (q : Int)) calm_np rfl rfl (by kernel_rfl) (by kernel_rfl) (by kernel_rfl) (by rfl) (fun W' hSw => by go_simp) hHeld ?_
                      try simp only [Act.put, List.setIfInBounds_toArray, List.set_cons_zero, List.set_cons_succ]
                      refine takeH 28 72 (.pointer (some ⟨b, off + q * 5, none⟩)) calm_np rfl rfl (by kernel_rfl) (by kernel_rfl) (by kernel_rfl) (by rfl) (fun W' hSw => by go_simp) hHeld ?_
                      try simp only [Act.put, List.setIfInBounds_toArray, List.set_cons_zero, List.set_cons_succ]
                      refine takeH 29 73 (.agg #[.string p.f, .string p.t, .int .i64 p.r, .int .i64 p.n, .int .i64 p.d]) calm_np rfl rfl (by kernel_rfl) (by kernel_rfl) (by kernel_rfl) (by rfl) (fun W' hSw => by obtain ⟨g0, g1, g2, g3, g4⟩ := HPC.out W' hSw; go_simp) hHeld ?_
                      try simp only [Act.put, List.setIfInBounds_toArray, List.set_cons_zero, List.set_cons_succ]
                      refine wpAnyH_ready (rs := [30]) (by kernel_rfl) (by simp) (AllReadyH.cons rfl (fun K hK => ?_) AllReadyH.nil)
                      go_simp
                      go_at_call 41
                      refine (HA.out _).mono ?_
                      rintro e V4 ⟨rfl, hz⟩
                      have hh := below_trans hHeld hz
                      clear hz
                      go_simp
                      refine hK.out _ _ hh (fun hHeld => ?_)
                      clear hK
                      try simp only [Act.put, List.setIfInBounds_toArray, List.set_cons_zero, List.set_cons_succ]
                      refine takeH 31 75 (.bool true) calm_np rfl rfl (by kernel_rfl) (by kernel_rfl) (by kernel_rfl) (by rfl) (fun W' hSw => by go_simp) hHeld ?_
                      try simp only [Act.put, List.setIfInBounds_toArray, List.set_cons_zero, List.set_cons_succ]
                      refine takeH 32 76 (.bool true) calm_np rfl rfl (by kernel_rfl) (by kernel_rfl) (by kernel_rfl) (by rfl) (fun W' hSw => by go_simp) hHeld ?_
                      try simp only [Act.put, List.setIfInBounds_toArray, List.set_cons_zero, List.set_cons_succ]
                      refine takeH 33 77 (.bool true) calm_np rfl rfl (by kernel_rfl) (by kernel_rfl) (by kernel_rfl) (by rfl) (fun W' hSw => by go_simp) hHeld ?_
                      try simp only [Act.put, List.setIfInBounds_toArray, List.set_cons_zero, List.set_cons_succ]
                      refine wpAnyH_done (by kernel_rfl) ?_ _
                      refine NoPanic.normal ?_
                      go_wp2_with fail
                      go_meet
                      exact ⟨.inl ⟨rfl, HNO2.out⟩, hHeld⟩
          case rest =>
          obtain ⟨hz, hbe⟩ := hcut
          rcases hz with ⟨rfl, hno⟩ | ⟨rfl, hok, hup⟩
          · have HNO2 := Lib.hid hno
            have HBE := Lib.hid (below_trans HB2.out hbe)
            clear hno hbe
            go_wp2_with fail
            go_ret
            exact ⟨ret_bool HNO2.out.symm, HBE.out⟩
          · have HOK := Lib.hid hok
            have HUP := Lib.hid hup
            have HB3 := Lib.hid (below_trans HB2.out hbe)
            have HBR3 := Lib.hid (below_trans HBR2.out hbe)
            have HXY3 := Lib.hid (HXY0.out.below hbe)
            have HXG3 := Lib.hid (HXG2.out.below hbe)
            clear hok hup hbe HNO HAT HMM HFF HTT HPR HXG2 HXY0
            obtain ⟨z0, z1⟩ := HXG3.out.c2
            have hsz := HXG3.out.1
            have c0 : (0 : Int) ≤ k := by omega
            have c1 : (k : Int) ≤ l.length := by omega
            have c2 : (k : Int) ≤ cl := by omega
            go_wp2_with fail
            clear z0 z1 hsz
            rename World => W3
            go_loopw [8, 83] (fun _ i wr => ∃ j : Nat, j ≤ k ∧ i = .int .i64 j ∧ (l.take j).any (fun o => toB o y) = false ∧ Below W3.heap.size W3 wr) (fun _ i _ => k - (intOf i).toNat)
            case atStart => exact ⟨0, Nat.zero_le _, rfl, rfl, Below.refl _ _⟩
            case round =>
              obtain ⟨j, hj, rfl, hany, hbe⟩ := hrel
              have HANY := Lib.hid hany
              have HBE := Lib.hid hbe
              clear hany hbe
              by_cases hlj : j < k
              · have hjl : j < l.length := by omega
                obtain ⟨b', off', e', _, _, hb', k0, k1, k2, k3, k4⟩ := (H2.out.below (below_trans HB3.out HBE.out)).at hjl
                cases e'
                have HAT := Lib.hid (any_take (p := fun o => toB o y) hjl)
                have HTW : Hid (toB l[j] y = true → rightB s l = false) := Lib.hid (fun e => right_twice (s := s) (l := l) hlt2 (by rw [← HYE.out]; exact any_below hlj hjl e))
                have ha := al wr (.cells (sl l[j]).toArray 27)
                unfold sl at ha
                generalize l[j] = o at *
                have HB4 := Lib.hid (below_trans HBE.out ha)
                obtain ⟨y0, y1, y2, y3, y4⟩ := ((HXY3.out.below HBE.out).below ha).c5
                have hsy := ((HXY3.out.below HBE.out).below ha).1
                clear ha
                by_cases h1 : o.f = y.f
                · have e1 := bytes_yes h1
                  by_cases h2 : o.t = y.t
                  · have e2 := bytes_yes h2
                    have HNO2 := Lib.hid (HTW.out (decide_eq_true ⟨h1, h2⟩))
                    clear h1 h2 HTW HAT
                    go_wp2_with fail
                    go_ret
                    exact ⟨ret_bool HNO2.out.symm, below_trans HB3.out HB4.out⟩
                  · have e2 := bytes_no h2
                    have HN2 : Hid ((l.take (j + 1)).any (fun o => toB o y) = false) := Lib.hid (by rw [HAT.out, HANY.out]; exact decide_eq_false (fun h => h2 h.2))
                    clear h1 h2 HTW HAT
                    go_wp2_with fail
                    go_roundw
                    case rel => exact ⟨j + 1, by omega, by go_num, HN2.out, HB4.out⟩
                    case measure => simp [intOf]; omega
                · have e1 := bytes_no h1
                  have HN2 : Hid ((l.take (j + 1)).any (fun o => toB o y) = false) := Lib.hid (by rw [HAT.out, HANY.out]; exact decide_eq_false (fun h => h1 h.1))
                  clear h1 HTW HAT
                  go_wp2_with fail
                  go_roundw
                  case rel => exact ⟨j + 1, by omega, by go_num, HN2.out, HB4.out⟩
                  case measure => simp [intOf]; omega
              · obtain rfl : j = k := by omega
                have HON := Lib.hid (once_succ HR.out.2.2.1 hlt2 (by rw [← HYE.out]; exact HANY.out))
                go_wp2_with fail
                go_roundw
                case rel => exact ⟨j + 1, by omega, by go_num, HOK.out, HUP.out, HON.out, below_trans HBR3.out HBE.out⟩
                case measure => simp [intOf]; omega
        · obtain rfl : k = l.length := by omega
          have hall2 := HR.out.1
          rw [List.take_length] at hall2
          have HEND := Lib.hid (right_end (Nat.le_refl _) HALL.out HUPS.out hall2 HR.out.2.1 HR.out.2.2.1)
          obtain ⟨z0, z1⟩ := HXGR.out.c2
          have hsz := HXGR.out.1
          clear hall2 HR
          by_cases h8 : s.length ≤ 8
          · by_cases h16 : l.length ≤ 16
            · have HE2 : Hid (rightB s l = true) := Lib.hid (by rw [HEND.out, decide_eq_true h8, decide_eq_true h16]; rfl)
              go_wp2_with fail
              go_ret
              exact ⟨ret_bool (by first | exact HE2.out.symm | (rw [HE2.out]; simp; done) | (rw [HE2.out]; simp; omega)), HBW2.out⟩
            · have HE2 : Hid (rightB s l = false) := Lib.hid (by rw [HEND.out, decide_eq_true h8, decide_eq_false h16]; rfl)
              go_wp2_with fail
              go_ret
              exact ⟨ret_bool (by first | exact HE2.out.symm | (rw [HE2.out]; simp; done) | (rw [HE2.out]; simp; omega)), HBW2.out⟩
          · have HE2 : Hid (rightB s l = false) := Lib.hid (by rw [HEND.out, decide_eq_false h8]; rfl)
            go_wp2_with fail
            go_ret
            exact ⟨ret_bool (by first | exact HE2.out.symm | (rw [HE2.out]; simp; done) | (rw [HE2.out]; simp; omega)), HBW2.out⟩
end Go.Proofs.Ythhadeohabkleaa.Goods
