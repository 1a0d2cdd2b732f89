/-
  Contracts of package goods' For, and of the reference's Less, above, For and Like (of what is alike).
-/
import Derived.Test.YthhadeohabkleaaGKnow
namespace Go.Proofs.Ythhadeohabkleaa.Goods
open Go.ChangeShapes Go.WideShapes Go.ChangeAt Go.RowKit Go.Shelf

set_option maxRecDepth 100000 in
set_option maxHeartbeats 1000000 in
theorem refLess_any (x y : ByteArray) (hx : x.size ≤ 1000000) (_hy : y.size ≤ 1000000) (w : World) : Calls Try.prog 40 #[.string x, .string y] w (BoolB (ltT x y) w) := by
  have HD : Hid (∀ k, k ≤ x.size → k ≤ y.size → x.data.toList.take k = y.data.toList.take k → ltT x y = Op.bytesLess (x.data.toList.drop k) (y.data.toList.drop k)) := fun k h1 h2 h => by
    unfold ltT
    rw [Go.Lib.toList_data, Go.Lib.toList_data]
    exact less_drop k _ _ (by simpa using h1) (by simpa using h2) h
  generalize ltT x y = m at HD ⊢
  go_enter Try.func40, Try.ntmps40
  go_wp2
  go_loopw [5] (fun i wr => ∃ k : Nat, k ≤ x.size ∧ k ≤ y.size ∧ i = .int .i64 k ∧ x.data.toList.take k = y.data.toList.take k ∧ Below w.heap.size w wr) (fun i _ => x.size - (intOf i).toNat)
  case atStart => exact ⟨0, Nat.zero_le _, Nat.zero_le _, rfl, rfl, Below.refl _ _⟩
  case round =>
    obtain ⟨k, hk1, hk2, rfl, heq, hbe⟩ := hrel
    have HQ := Lib.hid heq
    have HBE := Lib.hid hbe
    clear heq hbe
    by_cases h1 : k < x.size
    · by_cases h2 : k < y.size
      · have l1 : k < x.data.toList.length := by simpa using h1
        have l2 : k < y.data.toList.length := by simpa using h2
        have HX : Hid (x.data.toList.drop k = (x[k]'h1) :: x.data.toList.drop (k + 1)) := Lib.hid (List.drop_eq_getElem_cons l1)
        have HY : Hid (y.data.toList.drop k = (y[k]'h2) :: y.data.toList.drop (k + 1)) := Lib.hid (List.drop_eq_getElem_cons l2)
        have HTX : Hid (x.data.toList.take (k + 1) = x.data.toList.take k ++ [x[k]'h1]) := Lib.hid (List.take_succ_eq_append_getElem l1)
        have HTY : Hid (y.data.toList.take (k + 1) = y.data.toList.take k ++ [y[k]'h2]) := Lib.hid (List.take_succ_eq_append_getElem l2)
        have c0 : (0 : Int) ≤ k := by omega
        have c1 : (k : Int) < x.size := by omega
        have c2 : (k : Int) < y.size := by omega
        have b1 := (x[k]'h1).toNat_lt
        have b2 := (y[k]'h2).toNat_lt
        by_cases he : (x[k]'h1) = (y[k]'h2)
        · have HN : Hid (x.data.toList.take (k + 1) = y.data.toList.take (k + 1)) := Lib.hid (by rw [HTX.out, HTY.out, HQ.out, he])
          have e1 : ((x[k]'h1).toNat : Int) = (y[k]'h2).toNat := by rw [he]
          clear he HTX HTY HX HY
          go_upto_region 4 with (fail)
          go_quiet (fail)
          go_wp2_with fail
          go_roundw
          case rel => exact ⟨k + 1, by omega, by omega, by go_num, HN.out, below_trans HBE.out ⟨rfl, rfl, rfl, Nat.le_refl _, fun _ _ => rfl⟩⟩
          case measure => simp [intOf]; omega
        · have hne : ¬ (x[k]'h1).toNat = (y[k]'h2).toNat := fun h => he (UInt8.toNat_inj.1 h)
          have e1 : (((x[k]'h1).toNat : Int) == (y[k]'h2).toNat) = false := by simpa using (by omega : ¬ ((x[k]'h1).toNat : Int) = (y[k]'h2).toNat)
          have e2 : (((x[k]'h1).toNat : Int) != (y[k]'h2).toNat) = true := by simpa using (by omega : ¬ ((x[k]'h1).toNat : Int) = (y[k]'h2).toNat)
          have HM : Hid (m = decide (((x[k]'h1).toNat : Int) < (y[k]'h2).toNat)) := Lib.hid (by
            rw [HD.out k (by omega) (by omega) HQ.out, HX.out, HY.out]
            simp only [Op.bytesLess]
            have : ((x[k]'h1) == (y[k]'h2)) = false := by simpa using he
            rw [this, Bool.false_and, Bool.or_false]
            rw [decide_eq_decide]
            rw [UInt8.lt_iff_toNat_lt]
            omega)
          clear he HTX HTY HX HY hne
          go_upto_region 4 with (fail)
          go_quiet (fail)
          go_wp2_with fail
          go_quiet (fail)
          go_wp2_with fail
          go_ret
          exact ⟨ret_bool (by first | exact HM.out.symm | (rw [HM.out]; done) | (rw [HM.out]; simp; done) | (rw [HM.out]; simp; omega)), below_trans HBE.out ⟨rfl, rfl, rfl, Nat.le_refl _, fun _ _ => rfl⟩⟩
      · obtain rfl : k = y.size := by omega
        have HM : Hid (m = false) := Lib.hid (by
          rw [HD.out y.size (by omega) (by omega) HQ.out, List.drop_of_length_le (by simp : y.data.toList.length ≤ y.size)]
          simp [Op.bytesLess])
        go_wp2
        go_ret
        exact ⟨ret_bool (by rw [HM.out]; simp; omega), HBE.out⟩
    · obtain rfl : k = x.size := by omega
      have HM : Hid (m = decide ((x.size : Int) < y.size)) := Lib.hid (by
        rw [HD.out x.size (by omega) (by omega) HQ.out, List.drop_of_length_le (by simp : x.data.toList.length ≤ x.size)]
        by_cases h2 : x.size < y.size
        · have l2 : x.size < y.data.toList.length := by simpa using h2
          rw [List.drop_eq_getElem_cons l2]
          simp [Op.bytesLess, h2]
        · rw [List.drop_of_length_le (by simp; omega : y.data.toList.length ≤ x.size)]
          simp [Op.bytesLess]
          omega)
      go_wp2
      go_ret
      exact ⟨ret_bool (by first | exact HM.out.symm | (rw [HM.out]; done) | (rw [HM.out]; simp; done) | (rw [HM.out]; simp; omega)), HBE.out⟩

set_option maxRecDepth 100000 in
set_option maxHeartbeats 1000000 in
theorem refAbove_any (a b : Sb) (ha : small a) (hb : small b) (w : World) : Calls Try.prog 41 #[sv a, sv b] w (BoolB (belowB b a) w) := by
  have HL := Lib.hid (fun W => refLess_any b.f a.f hb.1 ha.1 W)
  have HBW := Lib.hid (below_trans (al w (.cells (sl a).toArray 27)) (al _ (.cells (sl b).toArray 27)))
  have h1 := (Box.made w (sl a) 27).below (al _ (.cells (sl b).toArray 27))
  have h2 := Box.made (w.alloc (.cells (sl a).toArray 27)) (sl b) 27
  simp only [World.size_alloc] at h2
  have HX1 := Lib.hid h1
  have HX2 := Lib.hid h2
  clear h1 h2
  unfold sl at HBW HX1 HX2
  unfold sv belowB
  cases hm : ltT b.f a.f with
  | true =>
    rw [hm] at HL
    rw [Bool.true_or]
    clear hm HX1 HX2
    go_enter Try.func41, Try.ntmps41
    go_wp2_with (go_at_call 40; (with_reducible refine (HL.out _).mono ?_); rintro e w1 ⟨rfl, hz⟩; have HZ := Lib.hid (below_trans HBW.out hz); clear hz)
    go_ret
    exact ⟨rfl, HZ.out⟩
  | false =>
    rw [hm] at HL
    rw [Bool.false_or]
    clear hm
    by_cases hf : a.f = b.f
    · have e1 := bytes_yes hf
      have HF : Hid (decide (b.f = a.f) = true) := Lib.hid (decide_eq_true hf.symm)
      clear hf
      go_enter Try.func41, Try.ntmps41
      go_wp2_with fail
      (with_reducible refine (HL.out _).mono ?_)
      rintro e w1 ⟨rfl, hz⟩
      obtain ⟨x0, x1, x2, x3, x4⟩ := (HX1.out.below hz).c5
      obtain ⟨y0, y1, y2, y3, y4⟩ := (HX2.out.below hz).c5
      have s1 := (HX1.out.below hz).1
      have s2 := (HX2.out.below hz).1
      have HZ := Lib.hid (below_trans HBW.out hz)
      clear hz
      go_wp2_with fail
      go_ret
      exact ⟨ret_bool (by rw [HF.out, Bool.true_and]), HZ.out⟩
    · have e1 := bytes_no hf
      have HF : Hid (decide (b.f = a.f) = false) := Lib.hid (decide_eq_false (fun h => hf h.symm))
      clear hf
      go_enter Try.func41, Try.ntmps41
      go_wp2_with fail
      (with_reducible refine (HL.out _).mono ?_)
      rintro e w1 ⟨rfl, hz⟩
      obtain ⟨x0, x1, x2, x3, x4⟩ := (HX1.out.below hz).c5
      obtain ⟨y0, y1, y2, y3, y4⟩ := (HX2.out.below hz).c5
      have s1 := (HX1.out.below hz).1
      have s2 := (HX2.out.below hz).1
      have HZ := Lib.hid (below_trans HBW.out hz)
      clear hz
      go_wp2_with fail
      go_ret
      exact ⟨ret_bool (by rw [HF.out, Bool.false_and]), HZ.out⟩

/-- Two goods in their blocks, side by side. -/
def LikeR (g : Nat) (xs ys : List Value) (w W : World) : Prop := Box g xs W ∧ Box (g + 1) ys W ∧ Below w.heap.size w W
/-- The rules of a name. -/
def forL (k : ByteArray) (l : List Sb) : List Sb := l.filter (fun x => decide (x.f = k))
theorem for_yes {k : ByteArray} {l : List Sb} {j : Nat} (hj : j < l.length) (e : l[j].f = k) : forL k (l.take (j + 1)) = forL k (l.take j) ++ [l[j]] := by
  unfold forL
  rw [List.take_succ_eq_append_getElem hj, List.filter_append]
  simp [e]
theorem for_no {k : ByteArray} {l : List Sb} {j : Nat} (hj : j < l.length) (e : ¬ l[j].f = k) : forL k (l.take (j + 1)) = forL k (l.take j) := by
  unfold forL
  rw [List.take_succ_eq_append_getElem hj, List.filter_append]
  simp [e]
theorem for_len (k : ByteArray) (l : List Sb) (j : Nat) : (forL k (l.take j)).length ≤ l.length := by
  have h1 : (forL k (l.take j)).length ≤ (l.take j).length := List.length_filter_le _ _
  rw [List.length_take] at h1
  omega
def ForR (B : Nat) (k : ByteArray) (l : List Sb) (j : Nat) (v : Value) (w W : World) : Prop := OwnG B v (forL k (l.take j)) W ∧ Below w.heap.size w W
/-- Rules and an error are returned; nothing that lay has turned. -/
def RulesE (l : List Sb) (z : Int) (w : World) (e : Ending) (w' : World) : Prop := ∃ v, e = .returned (.tuple #[v, .int .i64 z]) ∧ GRow w' v l ∧ Below w.heap.size w w'
def RulesR (l : List Sb) (w : World) (e : Ending) (w' : World) : Prop := ∃ v, e = .returned v ∧ GRow w' v l ∧ Below w.heap.size w w'

set_option maxRecDepth 100000 in
set_option maxHeartbeats 2000000 in
theorem For_yes {v u : Value} {s : List ByteArray} {l : List Sb} {w : World} (h : GGood w v u s l) (hs : Short s l) (k : ByteArray) (hr : rightB s l = true) (hk : hasB s k = true) : Calls Try.prog 10 #[.agg #[v, u], .string k] w (RulesE (forL k l) 0 w) := by
  have hl := hs.2.1
  have HR0 := Lib.hid (fun W (hb : Below w.heap.size w W) => hr ▸ Right_any (h.below hb) hs)
  have HC := Lib.hid (fun W (hb : Below w.heap.size w W) => hk ▸ Contains_any (h.1.below hb) hs.1 k)
  have H := Lib.hid h.2
  obtain ⟨a, cap, rfl⟩ := h.1.slice
  obtain ⟨a', cap', rfl⟩ := h.2.slice
  have HB := Lib.hid (al w (.cells #[.slice a s.length cap, .slice a' l.length cap'] 25))
  have HX := Lib.hid (Box.made w [.slice a s.length cap, .slice a' l.length cap'] 25)
  clear h hs hr hk
  go_enter Try.func10, Try.ntmps10
  go_wp2_with fail
  (with_reducible refine (HR0.out _ HB.out).mono ?_)
  rintro e w1 ⟨rfl, hz⟩
  have HB1 := Lib.hid (below_trans HB.out hz)
  have HX1 := Lib.hid (HX.out.below hz)
  obtain ⟨x0, x1⟩ := HX1.out.c2
  have hs1 := HX1.out.1
  clear hz
  go_wp2_with fail
  (with_reducible refine (HC.out _ HB1.out).mono ?_)
  rintro e w2 ⟨rfl, hz⟩
  have HB2 := Lib.hid (below_trans HB1.out hz)
  have HX2 := Lib.hid (HX1.out.below hz)
  obtain ⟨x0', x1'⟩ := HX2.out.c2
  have hs2 := HX2.out.1
  clear hz
  go_wp2_with fail
  go_loopw [6, 8, 20] (fun v _ i wr => ∃ j : Nat, j ≤ l.length ∧ i = .int .i64 j ∧ ForR w.heap.size k l j v w wr) (fun _ _ i _ => l.length - (intOf i).toNat)
  case atStart => exact ⟨0, Nat.zero_le _, rfl, OwnG.nil _ _, HB2.out⟩
  case round =>
    obtain ⟨j, hj, rfl, hr⟩ := hrel
    have HR := Lib.hid hr
    have hlen := for_len k l j
    obtain ⟨av, nv, cv, rfl⟩ : ∃ a n c, u6 = .slice a n c := (by obtain ⟨a', c', e⟩ := hr.1.row.slice; exact ⟨a', _, c', e⟩)
    clear hr
    by_cases hlt : j < l.length
    · obtain ⟨b, off, rfl, _, _, hb, k0, k1, k2, k3, k4⟩ := (H.out.below HR.out.2).at hlt
      have HB2 := Lib.hid (below_trans HR.out.2 (al wr (.cells (sl l[j]).toArray 27)))
      have HO := Lib.hid (HR.out.1.below (al wr (.cells (sl l[j]).toArray 27)))
      have HY := Lib.hid (fun e => for_yes (k := k) hlt e)
      have HN := Lib.hid (fun e => for_no (k := k) hlt e)
      have hone := GRow.one (wr.alloc (.cells (sl l[j]).toArray 27)) l[j]
      simp only [World.size_alloc] at hone
      have HONE := Lib.hid hone
      clear hone
      have HO2 := Lib.hid (HO.out.below (al _ (.cells (sl l[j]).toArray 27)))
      have HB3 := Lib.hid (below_trans HB2.out (al _ (.cells (sl l[j]).toArray 27)))
      unfold sl at HB2 HO HONE HO2 HB3
      generalize l[j] = x at *
      by_cases he : x.f = k
      · have e1 := bytes_yes he
        have HY2 := Lib.hid (HY.out he)
        clear he HY HN
        go_wp2_with (at_builtin; refine wpList_append_G rfl _ _ rfl w.heap.size _ (forL k (l.take j)) rfl HO2.out _ [x] rfl HONE.out (by omega) (by simp) (by have := HB3.out.size; omega) ?_)
        intro v' w1 hown hbel
        obtain ⟨a1, n1, c1, rfl⟩ : ∃ a n c, v' = .slice a n c := (by obtain ⟨a', c', e⟩ := hown.row.slice; exact ⟨a', _, c', e⟩)
        have HO3 := Lib.hid hown
        have HZ := Lib.hid (HB3.out.trans (hbel.mono (by omega)))
        clear hown hbel
        go_wp2_with fail
        go_roundw
        case rel => exact ⟨j + 1, by omega, by go_num, by rw [HY2.out]; exact HO3.out, HZ.out⟩
        case measure => simp [intOf]; omega
      · have e1 := bytes_no he
        have HN2 := Lib.hid (HN.out he)
        clear he HY HN
        go_wp2_with fail
        go_roundw
        case rel => exact ⟨j + 1, by omega, by go_num, by rw [HN2.out]; exact HO.out, HB2.out⟩
        case measure => simp [intOf]; omega
    · obtain rfl : j = l.length := by omega
      have hrow := HR.out.1.row
      rw [List.take_length] at hrow
      have HROW := Lib.hid hrow
      clear hrow
      go_wp2_with fail
      go_ret2
      exact ⟨_, rfl, HROW.out, HR.out.2⟩

set_option maxRecDepth 100000 in
set_option maxHeartbeats 2000000 in
theorem For_no {v u : Value} {s : List ByteArray} {l : List Sb} {w : World} (h : GGood w v u s l) (hs : Short s l) (k : ByteArray) {z : Int} (hr : (rightB s l = false ∧ z = 1) ∨ (rightB s l = true ∧ hasB s k = false ∧ z = 8)) : Calls Try.prog 10 #[.agg #[v, u], .string k] w (RulesE [] z w) := by
  have HR0 := Lib.hid (fun W (hb : Below w.heap.size w W) => Right_any (h.below hb) hs)
  have HC := Lib.hid (fun W (hb : Below w.heap.size w W) => Contains_any (h.1.below hb) hs.1 k)
  obtain ⟨a, cap, rfl⟩ := h.1.slice
  obtain ⟨a', cap', rfl⟩ := h.2.slice
  have HB := Lib.hid (al w (.cells #[.slice a s.length cap, .slice a' l.length cap'] 25))
  have HX := Lib.hid (Box.made w [.slice a s.length cap, .slice a' l.length cap'] 25)
  clear h hs
  rcases hr with ⟨e1, rfl⟩ | ⟨e1, e2, rfl⟩
  · rw [e1] at HR0
    clear e1
    go_enter Try.func10, Try.ntmps10
    go_wp2_with fail
    (with_reducible refine (HR0.out _ HB.out).mono ?_)
    rintro e w1 ⟨rfl, hz⟩
    have HB1 := Lib.hid (below_trans HB.out hz)
    clear hz
    go_wp2_with fail
    go_ret2
    exact ⟨_, rfl, .nil _, HB1.out⟩
  · rw [e1] at HR0
    rw [e2] at HC
    clear e1 e2
    go_enter Try.func10, Try.ntmps10
    go_wp2_with fail
    (with_reducible refine (HR0.out _ HB.out).mono ?_)
    rintro e w1 ⟨rfl, hz⟩
    have HB1 := Lib.hid (below_trans HB.out hz)
    have HX1 := Lib.hid (HX.out.below hz)
    obtain ⟨x0, x1⟩ := HX1.out.c2
    have hs1 := HX1.out.1
    clear hz
    go_wp2_with fail
    (with_reducible refine (HC.out _ HB1.out).mono ?_)
    rintro e w2 ⟨rfl, hz⟩
    have HB2 := Lib.hid (below_trans HB1.out hz)
    clear hz
    go_wp2_with fail
    go_ret2
    exact ⟨_, rfl, .nil _, HB2.out⟩

set_option maxRecDepth 100000 in
set_option maxHeartbeats 2000000 in
theorem refFor_any {v u : Value} {s : List ByteArray} {l : List Sb} {w : World} (h : GGood w v u s l) (hl : l.length ≤ 1000) (k : ByteArray) : Calls Try.prog 18 #[.agg #[v, u], .string k] w (RulesR (forL k l) w) := by
  have H := Lib.hid h.2
  obtain ⟨a, cap, rfl⟩ := h.1.slice
  obtain ⟨a', cap', rfl⟩ := h.2.slice
  have HB := Lib.hid (below_trans (al w (.cells #[.slice a s.length cap, .slice a' l.length cap'] 25)) (al _ (.cells #[] 27)))
  have he := OwnG.empty (w.alloc (.cells #[.slice a s.length cap, .slice a' l.length cap'] 25)) (B := w.heap.size) (by simp)
  simp only [World.size_alloc] at he
  have HE := Lib.hid he
  clear h he
  go_enter Try.func18, Try.ntmps18
  go_wp2_with fail
  go_loopw [5, 7, 12] (fun v _ i wr => ∃ j : Nat, j ≤ l.length ∧ i = .int .i64 j ∧ ForR w.heap.size k l j v w wr) (fun _ _ i _ => l.length - (intOf i).toNat)
  case atStart => exact ⟨0, Nat.zero_le _, rfl, HE.out, HB.out⟩
  case round =>
    obtain ⟨j, hj, rfl, hr⟩ := hrel
    have HR := Lib.hid hr
    have hlen := for_len k l j
    obtain ⟨av, nv, cv, rfl⟩ : ∃ a n c, u5 = .slice a n c := (by obtain ⟨a', c', e⟩ := hr.1.row.slice; exact ⟨a', _, c', e⟩)
    clear hr
    by_cases hlt : j < l.length
    · obtain ⟨b, off, rfl, _, _, hb, k0, k1, k2, k3, k4⟩ := (H.out.below HR.out.2).at hlt
      have HB2 := Lib.hid (below_trans HR.out.2 (al wr (.cells (sl l[j]).toArray 27)))
      have HO := Lib.hid (HR.out.1.below (al wr (.cells (sl l[j]).toArray 27)))
      have HY := Lib.hid (fun e => for_yes (k := k) hlt e)
      have HN := Lib.hid (fun e => for_no (k := k) hlt e)
      have hone := GRow.one (wr.alloc (.cells (sl l[j]).toArray 27)) l[j]
      simp only [World.size_alloc] at hone
      have HONE := Lib.hid hone
      clear hone
      have HO2 := Lib.hid (HO.out.below (al _ (.cells (sl l[j]).toArray 27)))
      have HB3 := Lib.hid (below_trans HB2.out (al _ (.cells (sl l[j]).toArray 27)))
      unfold sl at HB2 HO HONE HO2 HB3
      generalize l[j] = x at *
      by_cases he : x.f = k
      · have e1 := bytes_yes he
        have HY2 := Lib.hid (HY.out he)
        clear he HY HN
        go_wp2_with (at_builtin; refine wpList_append_G rfl _ _ rfl w.heap.size _ (forL k (l.take j)) rfl HO2.out _ [x] rfl HONE.out (by omega) (by simp) (by have := HB3.out.size; omega) ?_)
        intro v' w1 hown hbel
        obtain ⟨a1, n1, c1, rfl⟩ : ∃ a n c, v' = .slice a n c := (by obtain ⟨a', c', e⟩ := hown.row.slice; exact ⟨a', _, c', e⟩)
        have HO3 := Lib.hid hown
        have HZ := Lib.hid (HB3.out.trans (hbel.mono (by omega)))
        clear hown hbel
        go_wp2_with fail
        go_roundw
        case rel => exact ⟨j + 1, by omega, by go_num, by rw [HY2.out]; exact HO3.out, HZ.out⟩
        case measure => simp [intOf]; omega
      · have e1 := bytes_no he
        have HN2 := Lib.hid (HN.out he)
        clear he HY HN
        go_wp2_with fail
        go_roundw
        case rel => exact ⟨j + 1, by omega, by go_num, by rw [HN2.out]; exact HO.out, HB2.out⟩
        case measure => simp [intOf]; omega
    · obtain rfl : j = l.length := by omega
      have hrow := HR.out.1.row
      rw [List.take_length] at hrow
      have HROW := Lib.hid hrow
      clear hrow
      go_wp2_with fail
      go_ret
      exact ⟨_, rfl, HROW.out, HR.out.2⟩

set_option maxRecDepth 100000 in
set_option maxHeartbeats 2000000 in
theorem Like_yes {v u v' u' : Value} {s : List ByteArray} {l : List Sb} {w : World} (h : GGood w v u s l) (h' : GGood w v' u' s l) : Calls Try.prog 14 #[.agg #[v, u], .agg #[v', u']] w (BoolB true w) := by
  have H := Lib.hid h
  have H' := Lib.hid h'
  obtain ⟨a, cap, rfl⟩ := h.1.slice
  obtain ⟨b, cap', rfl⟩ := h.2.slice
  obtain ⟨c, cbp, rfl⟩ := h'.1.slice
  obtain ⟨d, cbp', rfl⟩ := h'.2.slice
  have HB := Lib.hid (below_trans (al w (.cells #[.slice a s.length cap, .slice b l.length cap'] 25)) (al _ (.cells #[.slice c s.length cbp, .slice d l.length cbp'] 25)))
  have hx := (Box.made w [.slice a s.length cap, .slice b l.length cap'] 25).below (al _ (.cells #[.slice c s.length cbp, .slice d l.length cbp'] 25))
  have hy := Box.made (w.alloc (.cells #[.slice a s.length cap, .slice b l.length cap'] 25)) [.slice c s.length cbp, .slice d l.length cbp'] 25
  simp only [World.size_alloc] at hy
  have HX := Lib.hid hx
  have HY := Lib.hid hy
  clear h h' hx hy
  go_enter Try.func14, Try.ntmps14
  go_wp2_with fail
  go_loopw [5, 26] (fun _ i wr => ∃ k : Nat, k ≤ s.length ∧ i = .int .i64 k ∧ LikeR w.heap.size [.slice a s.length cap, .slice b l.length cap'] [.slice c s.length cbp, .slice d l.length cbp'] w wr) (fun _ i _ => s.length - (intOf i).toNat)
  case atStart => exact ⟨0, Nat.zero_le _, rfl, HX.out, HY.out, HB.out⟩
  case round =>
    obtain ⟨k, hk, rfl, hr⟩ := hrel
    have HR := Lib.hid hr
    obtain ⟨x0, x1⟩ := hr.1.c2
    obtain ⟨y0, y1⟩ := hr.2.1.c2
    have hs1 := hr.1.1
    have hs2 := hr.2.1.1
    clear hr
    have c1 : (0 : Int) ≤ k := by omega
    by_cases hlt : k < s.length
    · obtain ⟨bb, off, rfl, _, _, hb, k0⟩ := (H.out.1.below HR.out.2.2).at hlt
      obtain ⟨bb', off', rfl, _, _, hb', j0⟩ := (H'.out.1.below HR.out.2.2).at hlt
      have c2 : (k : Int) < s.length := by omega
      go_upto_region 6 with fail
      go_region
      go_wp2_with fail
      go_roundw
      case rel => exact ⟨k + 1, by omega, by go_num, HR.out.1.below (dr _), HR.out.2.1.below (dr _), below_trans HR.out.2.2 (dr _)⟩
      case measure => simp [Go.RowKit.intOf]; omega
    · obtain rfl : k = s.length := by omega
      go_wp2_with fail
      rename World => W0
      go_loopw [6, 44] (fun _ i wr => ∃ k : Nat, k ≤ l.length ∧ i = .int .i64 k ∧ LikeR w.heap.size [.slice a s.length cap, .slice b l.length cap'] [.slice c s.length cbp, .slice d l.length cbp'] w wr) (fun _ i _ => l.length - (intOf i).toNat)
      case atStart => exact ⟨0, Nat.zero_le _, rfl, HR.out⟩
      case round =>
        obtain ⟨k, hk, rfl, hr⟩ := hrel
        have HR2 := Lib.hid hr
        clear x0 x1 y0 y1 hs1 hs2
        obtain ⟨x0, x1⟩ := hr.1.c2
        obtain ⟨y0, y1⟩ := hr.2.1.c2
        have hs1 := hr.1.1
        have hs2 := hr.2.1.1
        clear hr
        have c1 : (0 : Int) ≤ k := by omega
        by_cases hlt : k < l.length
        · obtain ⟨bb, off, rfl, _, _, hb, k0, k1, k2, k3, k4⟩ := (H.out.2.below HR2.out.2.2).at hlt
          obtain ⟨bb', off', rfl, _, _, hb', j0, j1, j2, j3, j4⟩ := (H'.out.2.below HR2.out.2.2).at hlt
          have c2 : (k : Int) < l.length := by omega
          go_upto_region 12 with fail
          go_region
          go_wp2_with fail
          go_roundw
          case rel => exact ⟨k + 1, by omega, by go_num, HR2.out.1.below (dr _), HR2.out.2.1.below (dr _), below_trans HR2.out.2.2 (dr _)⟩
          case measure => simp [Go.RowKit.intOf]; omega
        · obtain rfl : k = l.length := by omega
          go_wp2_with fail
          go_ret
          exact ⟨rfl, HR2.out.2.2⟩
end Go.Proofs.Ythhadeohabkleaa.Goods
