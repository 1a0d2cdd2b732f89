/-
  Contract of the reference's Set.
-/
import Derived.Test.YtihfdeihpdkjcaaKRefG
namespace Go.Proofs.Ytihfdeihpdkjcaa.Goods.Stk
open Go.ChangeShapes Go.WideShapes Go.ChangeAt Go.RowKit Go.Shelf Go.Lib

theorem _root_.Go.Proofs.Ytihfdeihpdkjcaa.Goods.Box.held {b : Nat} {vs : List Value} {w w' : World} {r : Option Nat} (h : Box b vs w) (hg : w.grownBy w' r) (hne : some b ≠ r) : Box b vs w' := by
  have hb := hg.block b h.1 hne
  refine ⟨Nat.lt_of_lt_of_le h.1 hg.size, fun j v hj => ⟨?_, ?_⟩⟩
  · rw [World.cell?_of_block (a := ⟨b, j, none⟩) hb]; exact (h.2 j v hj).1
  · rw [World.frozen?_of_block (a := ⟨b, j, none⟩) hb]; exact (h.2 j v hj).2
theorem _root_.Go.Proofs.Ytihfdeihpdkjcaa.Goods.Box.stay {b B : Nat} {vs : List Value} {w w' : World} (h : Box b vs w) (hb : Below B w w') (hB : b < B) : Box b vs w' :=
  ⟨Nat.lt_of_lt_of_le h.1 hb.size, fun j v hj => ⟨(hb.cell (p := ⟨b, j, none⟩) hB).trans (h.2 j v hj).1, (hb.frozen (p := ⟨b, j, none⟩) hB).trans (h.2 j v hj).2⟩⟩
theorem OwnR.ne {B b : Nat} {v : Value} {l : List Rw} {w : World} (h : OwnR B v l w) (hb : w.heap.size ≤ b) : some b ≠ v.ownBlock := fun e => by
  have := (World.ownsRow.lt h _ e.symm).2
  omega
/-- What is still appended, once it is known whether the row was. -/
def goS (x : Rw) : Bool → List Rw → List Rw
  | d, [] => if d = true then [] else [x]
  | d, r :: t => if d = true then (if r.s = x.s then goS x true t else r :: goS x true t) else if ltT r.s x.s = true then r :: goS x false t else if r.s = x.s then x :: goS x true t else x :: r :: goS x true t
theorem goS_true {x : Rw} : ∀ {l : List Rw}, (∀ z ∈ l, ltT x.s z.s = true) → goS x true l = l
  | [], _ => rfl
  | r :: t, h => by
    rw [goS, if_pos rfl, if_neg (fun e => ltT_ne (h r List.mem_cons_self) e.symm), goS_true fun z hz => h z (List.mem_cons_of_mem _ hz)]
theorem goS_set (x : Rw) : ∀ {l : List Rw}, l.Pairwise (fun a b => ltR a b = true) → goS x false l = setL x l
  | [], _ => rfl
  | r :: t, h => by
    rw [List.pairwise_cons] at h
    rw [goS, if_neg Bool.false_ne_true, setL]
    split
    · rw [goS_set x h.2]
    · rename_i e1
      split
      · rename_i e2
        rw [goS_true fun z hz => by have := h.1 z hz; unfold ltR at this; rwa [e2] at this]
      · rename_i e2
        have h3 : ltT x.s r.s = true := by
          cases hc : ltT x.s r.s with
          | true => rfl
          | false => exact absurd (ltT_total (by simpa using e1) hc) e2
        rw [goS_true fun z hz => ltT_trans h3 (h.1 z hz)]

set_option maxRecDepth 100000 in
set_option maxHeartbeats 4000000 in
theorem refSet_any {v : Value} {l : List Rw} {w : World} (h : SRow w v l) (hl : Brief l) (x : Rw) (hx : x.s.size ≤ 1000000) (hp : l.Pairwise (fun a b => ltR a b = true)) : Calls Try.prog 28 #[v, rv x] w (NewR (setL x l) w) := by
  rw [← goS_set x hp]
  obtain ⟨a, cap, rfl⟩ := h.slice
  have H := Lib.hid h
  have HLS := Lib.hid (fun (y : Rw) (hy : y ∈ l) W => refLess_any y.s x.s (hl.2 y hy) hx W)
  have hlen := hl.1
  have hx0 := Box.made w [.string x.s, .int .i64 x.n, .int .i64 x.f, .int .i64 x.h, .int .i64 x.p, .int .i64 x.t] 25
  have hb0 := al w (.cells #[.string x.s, .int .i64 x.n, .int .i64 x.f, .int .i64 x.h, .int .i64 x.p, .int .i64 x.t] 25)
  have he0 := OwnR.empty (w.alloc (.cells #[.string x.s, .int .i64 x.n, .int .i64 x.f, .int .i64 x.h, .int .i64 x.p, .int .i64 x.t] 25)) (B := w.heap.size + 1) (by simp)
  have hx1 := hx0.below (al _ (.cells #[] 25))
  have hb1 := below_trans hb0 (al _ (.cells #[] 25))
  simp only [World.size_alloc] at he0
  obtain ⟨W0, hW0⟩ : ∃ W, (w.alloc (.cells #[.string x.s, .int .i64 x.n, .int .i64 x.f, .int .i64 x.h, .int .i64 x.p, .int .i64 x.t] 25)).alloc (.cells #[] 25) = W := ⟨_, rfl⟩
  rw [hW0] at he0 hx1 hb1
  have hs0 : w.heap.size + 1 + 1 = W0.heap.size := by rw [← hW0]; simp only [World.size_alloc]
  have HX0 := Lib.hid hx1
  have HB0 := Lib.hid hb1
  have HE0 := Lib.hid he0
  clear h hx0 hb0 he0 hx1 hb1 hl hx hp
  unfold rv
  go_enter Try.func28, Try.ntmps28
  go_wp2
  clear hW0
  go_loopw [5, 6, 8, 12] (fun u d _ i wr => ∃ (k : Nat) (o : List Rw) (z : Bool), k ≤ l.length ∧ i = .int .i64 k ∧ d = .bool z ∧ o.length ≤ k + 1 ∧ o ++ goS x z (l.drop k) = goS x false l ∧ OwnR (w.heap.size + 1) u o wr ∧ Box w.heap.size [.string x.s, .int .i64 x.n, .int .i64 x.f, .int .i64 x.h, .int .i64 x.p, .int .i64 x.t] wr ∧ Below w.heap.size w wr ∧ w.heap.size + 1 ≤ wr.heap.size ∧ (z = false → o.length ≤ k)) (fun _ _ _ i _ => l.length - (intOf i).toNat)
  case atStart => exact ⟨0, [], false, Nat.zero_le _, rfl, rfl, by simp, rfl, HE0.out, HX0.out, HB0.out, by omega, fun _ => by simp⟩
  case round =>
    obtain ⟨k, o, z, hk, rfl, rfl, hol, heq, ho, hbx, hbe, hsz, hzl⟩ := hrel
    obtain ⟨ua, un, uc, rfl⟩ : ∃ a n c, u5 = .slice a n c := (by obtain ⟨a', c', e⟩ := ho.row.slice; exact ⟨a', _, c', e⟩)
    have HO := Lib.hid ho
    have HX := Lib.hid hbx
    have HB := Lib.hid hbe
    have HQ := Lib.hid heq
    have HZL := Lib.hid hzl
    clear ho hbx hbe heq hzl
    by_cases hlt : k < l.length
    · obtain ⟨b, off, rfl, hlc, hcap, hb, k0, k1, k2, k3, k4, k5⟩ := (H.out.below HB.out).at hlt
      have HD : Hid (l.drop k = l[k] :: l.drop (k + 1)) := Lib.hid (List.drop_eq_getElem_cons hlt)
      have hls := HLS.out l[k] (List.getElem_mem hlt)
      generalize l[k] = y at *
      have hba := al wr (.cells #[.string y.s, .int .i64 y.n, .int .i64 y.f, .int .i64 y.h, .int .i64 y.p, .int .i64 y.t] 25)
      have hxy := Box.made wr [.string y.s, .int .i64 y.n, .int .i64 y.f, .int .i64 y.h, .int .i64 y.p, .int .i64 y.t] 25
      have HOA := Lib.hid (HO.out.below hba)
      have HXA := Lib.hid (HX.out.below hba)
      have HBA := Lib.hid (below_trans HB.out hba)
      have HYA := Lib.hid hxy
      have hsa : w.heap.size + 1 ≤ (wr.alloc (.cells #[.string y.s, .int .i64 y.n, .int .i64 y.f, .int .i64 y.h, .int .i64 y.p, .int .i64 y.t] 25)).heap.size := Nat.le_trans hsz hba.size
      have HNE := Lib.hid (HO.out.ne (Nat.le_refl _))
      clear hba hxy
      cases z with
      | true =>
        by_cases hm : y.s = x.s
        · have h1 := bytes_yes hm
          have HQ2 : Hid (o ++ goS x true (l.drop (k + 1)) = goS x false l) := Lib.hid (by rw [← HQ.out, HD.out, goS, if_pos rfl, if_pos hm])
          obtain ⟨x0, _, _, _, _, _⟩ := HXA.out.c6
          have hsx := HXA.out.1
          clear hm hls
          go_wp2_with fail
          go_roundw
          case rel => exact ⟨k + 1, o, true, by omega, by go_num, rfl, by omega, HQ2.out, HOA.out, HXA.out, HBA.out, hsa, fun h => by cases h⟩
          case measure => simp [intOf]; omega
        · have h1 := bytes_no hm
          have HQ2 : Hid ((o ++ [y]) ++ goS x true (l.drop (k + 1)) = goS x false l) := Lib.hid (by rw [← HQ.out, HD.out, goS, if_pos rfl, if_neg hm, List.append_assoc]; rfl)
          obtain ⟨x0, _, _, _, _, _⟩ := HXA.out.c6
          have hsx := HXA.out.1
          have HON := Lib.hid (HOA.out.below (al (wr.alloc (.cells #[.string y.s, .int .i64 y.n, .int .i64 y.f, .int .i64 y.h, .int .i64 y.p, .int .i64 y.t] 25)) (.cells #[.string y.s, .int .i64 y.n, .int .i64 y.f, .int .i64 y.h, .int .i64 y.p, .int .i64 y.t] 25)))
          have hone := SRow.one (wr.alloc (.cells #[.string y.s, .int .i64 y.n, .int .i64 y.f, .int .i64 y.h, .int .i64 y.p, .int .i64 y.t] 25)) y
          simp only [World.size_alloc] at hone
          have HONE := Lib.hid hone
          have HAL := Lib.hid (al (wr.alloc (.cells #[.string y.s, .int .i64 y.n, .int .i64 y.f, .int .i64 y.h, .int .i64 y.p, .int .i64 y.t] 25)) (.cells #[.string y.s, .int .i64 y.n, .int .i64 y.f, .int .i64 y.h, .int .i64 y.p, .int .i64 y.t] 25))
          have hs2 := HAL.out.size
          clear hm hls hone
          go_wp2_with (at_builtin; refine wpList_append_R rfl _ _ rfl (w.heap.size + 1) _ o rfl HON.out _ [y] rfl HONE.out (by omega) (by simp) (by omega) ?_)
          intro v2 w2 hown hbel _
          obtain ⟨a2, n2, c2, rfl⟩ : ∃ a n c, v2 = .slice a n c := (by obtain ⟨a', c', e⟩ := hown.row.slice; exact ⟨a', _, c', e⟩)
          have HO2 := Lib.hid hown
          have HX2 := Lib.hid ((HXA.out.below HAL.out).stay hbel (by omega))
          have HB2 := Lib.hid ((below_trans HBA.out HAL.out).trans (hbel.mono (by omega)))
          have hs3 : w.heap.size + 1 ≤ w2.heap.size := by have := hbel.size; omega
          clear hown hbel
          go_wp2_with fail
          go_roundw
          case rel => exact ⟨k + 1, o ++ [y], true, by omega, by go_num, rfl, by simp; omega, HQ2.out, HO2.out, HX2.out, HB2.out, hs3, fun h => by cases h⟩
          case measure => simp [intOf]; omega
      | false =>
        have hol2 := HZL.out rfl
        cases hlt2 : ltT y.s x.s with
        | true =>
          rw [hlt2] at hls
          have HC := Lib.hid hls
          have hm : y.s ≠ x.s := ltT_ne hlt2
          have h1 := bytes_no hm
          have HQ2 : Hid ((o ++ [y]) ++ goS x false (l.drop (k + 1)) = goS x false l) := Lib.hid (by rw [← HQ.out, HD.out, goS, if_neg Bool.false_ne_true, if_pos hlt2, List.append_assoc]; rfl)
          obtain ⟨x0, _, _, _, _, _⟩ := HXA.out.c6
          have hsx := HXA.out.1
          clear hm hls hlt2
          go_wp2_with fail
          (with_reducible refine (HC.out _).mono ?_)
          rintro e w1 ⟨rfl, hz⟩
          have HZ := Lib.hid hz
          have HX1 := Lib.hid (HXA.out.below hz)
          obtain ⟨x0, _, _, _, _, _⟩ := HX1.out.c6
          have hsx1 := HX1.out.1
          obtain ⟨y0, y1, y2, y3, y4, y5⟩ := (HYA.out.below hz).c6
          have hsy := (HYA.out.below hz).1
          have HON := Lib.hid ((HOA.out.below hz).below (al w1 (.cells #[.string y.s, .int .i64 y.n, .int .i64 y.f, .int .i64 y.h, .int .i64 y.p, .int .i64 y.t] 25)))
          have HONE := Lib.hid (SRow.one w1 y)
          have HAL := Lib.hid (al w1 (.cells #[.string y.s, .int .i64 y.n, .int .i64 y.f, .int .i64 y.h, .int .i64 y.p, .int .i64 y.t] 25))
          have hs1 := hz.size
          have hs2 := HAL.out.size
          clear hz
          go_wp2_with (at_builtin; refine wpList_append_R rfl _ _ rfl (w.heap.size + 1) _ o rfl HON.out _ [y] rfl HONE.out (by omega) (by simp) (by omega) ?_)
          intro v2 w2 hown hbel _
          obtain ⟨a2, n2, c2, rfl⟩ : ∃ a n c, v2 = .slice a n c := (by obtain ⟨a', c', e⟩ := hown.row.slice; exact ⟨a', _, c', e⟩)
          have HO2 := Lib.hid hown
          have HX2 := Lib.hid ((HX1.out.below HAL.out).stay hbel (by omega))
          have HB2 := Lib.hid ((below_trans (below_trans HBA.out HZ.out) HAL.out).trans (hbel.mono (by omega)))
          have hs3 : w.heap.size + 1 ≤ w2.heap.size := by have := hbel.size; omega
          clear hown hbel
          go_wp2_with fail
          go_roundw
          case rel => exact ⟨k + 1, o ++ [y], false, by omega, by go_num, rfl, by simp; omega, HQ2.out, HO2.out, HX2.out, HB2.out, hs3, fun _ => by simp; omega⟩
          case measure => simp [intOf]; omega
        | false =>
          rw [hlt2] at hls
          have HC := Lib.hid hls
          obtain ⟨x0, _, _, _, _, _⟩ := HXA.out.c6
          have hsx := HXA.out.1
          have HQ3 : Hid (o ++ (if y.s = x.s then x :: goS x true (l.drop (k + 1)) else x :: y :: goS x true (l.drop (k + 1))) = goS x false l) := Lib.hid (by
            have e : goS x false (y :: l.drop (k + 1)) = (if y.s = x.s then x :: goS x true (l.drop (k + 1)) else x :: y :: goS x true (l.drop (k + 1))) := by rw [goS, if_neg Bool.false_ne_true, if_neg (by rw [hlt2]; exact Bool.false_ne_true)]
            rw [← HQ.out, HD.out, e])
          clear hls hlt2
          go_wp2_with fail
          (with_reducible refine (HC.out _).mono ?_)
          rintro e w1 ⟨rfl, hz⟩
          have HZ := Lib.hid hz
          have HX1 := Lib.hid (HXA.out.below hz)
          obtain ⟨x0, x1, x2, x3, x4, x5⟩ := HX1.out.c6
          have hsx1 := HX1.out.1
          have HY1 := Lib.hid (HYA.out.below hz)
          have HON := Lib.hid ((HOA.out.below hz).below (al w1 (.cells #[.string x.s, .int .i64 x.n, .int .i64 x.f, .int .i64 x.h, .int .i64 x.p, .int .i64 x.t] 25)))
          have HONE := Lib.hid (SRow.one w1 x)
          have HAL := Lib.hid (al w1 (.cells #[.string x.s, .int .i64 x.n, .int .i64 x.f, .int .i64 x.h, .int .i64 x.p, .int .i64 x.t] 25))
          have hs1 := hz.size
          have hs2 := HAL.out.size
          clear hz
          go_wp2_with (at_builtin; refine wpList_append_R rfl _ _ rfl (w.heap.size + 1) _ o rfl HON.out _ [x] rfl HONE.out (by omega) (by simp) (by omega) ?_)
          intro v2 w2 hown hbel hgr
          obtain ⟨a2, n2, c2, rfl⟩ : ∃ a n c, v2 = .slice a n c := (by obtain ⟨a', c', e⟩ := hown.row.slice; exact ⟨a', _, c', e⟩)
          have HO2 := Lib.hid hown
          have HX2 := Lib.hid ((HX1.out.below HAL.out).stay hbel (by omega))
          have HY2 := Lib.hid ((HY1.out.below HAL.out).held hgr HNE.out)
          have HB2 := Lib.hid ((below_trans (below_trans HBA.out HZ.out) HAL.out).trans (hbel.mono (by omega)))
          have hs3 : w.heap.size + 1 ≤ w2.heap.size := by have := hbel.size; omega
          clear hown hbel hgr
          obtain ⟨q0, _, _, _, _, _⟩ := HX2.out.c6
          have hsq := HX2.out.1
          obtain ⟨y0, y1, y2, y3, y4, y5⟩ := HY2.out.c6
          have hsy := HY2.out.1
          by_cases hm : y.s = x.s
          · have h1 := bytes_yes hm
            have HQ2 : Hid ((o ++ [x]) ++ goS x true (l.drop (k + 1)) = goS x false l) := Lib.hid (by rw [← HQ3.out, if_pos hm, List.append_assoc]; rfl)
            clear hm HQ3
            go_wp2_with fail
            go_roundw
            case rel => exact ⟨k + 1, o ++ [x], true, by omega, by go_num, rfl, by simp; omega, HQ2.out, HO2.out, HX2.out, HB2.out, hs3, fun h => by cases h⟩
            case measure => simp [intOf]; omega
          · have h1 := bytes_no hm
            have HQ2 : Hid ((o ++ [x, y]) ++ goS x true (l.drop (k + 1)) = goS x false l) := Lib.hid (by rw [← HQ3.out, if_neg hm, List.append_assoc]; rfl)
            have HON3 := Lib.hid (HO2.out.below (al w2 (.cells #[.string y.s, .int .i64 y.n, .int .i64 y.f, .int .i64 y.h, .int .i64 y.p, .int .i64 y.t] 25)))
            have HONE3 := Lib.hid (SRow.one w2 y)
            have HAL3 := Lib.hid (al w2 (.cells #[.string y.s, .int .i64 y.n, .int .i64 y.f, .int .i64 y.h, .int .i64 y.p, .int .i64 y.t] 25))
            have hs4 := HAL3.out.size
            clear hm HQ3
            go_wp2_with (at_builtin; refine wpList_append_R rfl _ _ rfl (w.heap.size + 1) _ (o ++ [x]) rfl HON3.out _ [y] rfl HONE3.out (by simp only [List.length_append, List.length_cons, List.length_nil]; omega) (by simp) (by omega) ?_)
            intro v3 w3 hown hbel _
            obtain ⟨a3, n3, c3, rfl⟩ : ∃ a n c, v3 = .slice a n c := (by obtain ⟨a', c', e⟩ := hown.row.slice; exact ⟨a', _, c', e⟩)
            have HO4 := Lib.hid hown
            have HX4 := Lib.hid ((HX2.out.below HAL3.out).stay hbel (by omega))
            have HB4 := Lib.hid ((below_trans HB2.out HAL3.out).trans (hbel.mono (by omega)))
            have hs5 : w.heap.size + 1 ≤ w3.heap.size := by have := hbel.size; omega
            clear hown hbel
            go_wp2_with fail
            go_roundw
            case rel => exact ⟨k + 1, o ++ [x, y], true, by omega, by go_num, rfl, by simp; omega, HQ2.out, HO4.out, HX4.out, HB4.out, hs5, fun h => by cases h⟩
            case measure => simp [intOf]; omega
    · obtain rfl : k = l.length := by omega
      have HQ1 : Hid (o ++ goS x z [] = goS x false l) := Lib.hid (by rw [← HQ.out, List.drop_length])
      cases z with
      | true =>
        have HQ2 : Hid (o = goS x false l) := Lib.hid (by rw [← HQ1.out, goS, if_pos rfl, List.append_nil])
        go_wp2_with fail
        go_ret
        exact ⟨_, rfl, by rw [← HQ2.out]; exact HO.out.mono (by omega), HB.out⟩
      | false =>
        have HQ2 : Hid (o ++ [x] = goS x false l) := Lib.hid (by rw [← HQ1.out, goS, if_neg Bool.false_ne_true])
        obtain ⟨x0, x1, x2, x3, x4, x5⟩ := HX.out.c6
        have hsx := HX.out.1
        have HON := Lib.hid (HO.out.below (al wr (.cells #[.string x.s, .int .i64 x.n, .int .i64 x.f, .int .i64 x.h, .int .i64 x.p, .int .i64 x.t] 25)))
        have HONE := Lib.hid (SRow.one wr x)
        have HAL := Lib.hid (al wr (.cells #[.string x.s, .int .i64 x.n, .int .i64 x.f, .int .i64 x.h, .int .i64 x.p, .int .i64 x.t] 25))
        have hs2 := HAL.out.size
        go_wp2_with (at_builtin; refine wpList_append_R rfl _ _ rfl (w.heap.size + 1) _ o rfl HON.out _ [x] rfl HONE.out (by omega) (by simp) (by omega) ?_)
        intro v2 w2 hown hbel _
        obtain ⟨a2, n2, c2, rfl⟩ : ∃ a n c, v2 = .slice a n c := (by obtain ⟨a', c', e⟩ := hown.row.slice; exact ⟨a', _, c', e⟩)
        have HO2 := Lib.hid hown
        have HB2 := Lib.hid ((below_trans HB.out HAL.out).trans (hbel.mono (by omega)))
        clear hown hbel
        go_wp2_with fail
        go_ret
        exact ⟨_, rfl, by rw [← HQ2.out]; exact HO2.out.mono (by omega), HB2.out⟩
end Go.Proofs.Ytihfdeihpdkjcaa.Goods.Stk
