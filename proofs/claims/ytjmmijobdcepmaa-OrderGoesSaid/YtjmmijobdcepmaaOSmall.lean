/-
  Contracts of package order: units, what an order lacks, whether it is open, its money closed, nothing sent; its numbers, its money, its name, its place.
-/
import Derived.Test.YtjmmijobdcepmaaOBase
namespace Go.Proofs.Ytjmmijobdcepmaa.Order
open Go.ChangeShapes Go.WideShapes Go.ChangeAt Go.RowKit
open Go.Proofs.Ytjmmijobdcepmaa.Pay (Py RightP UnitP TimeP GoodP)
open Go.Proofs.Ytjmmijobdcepmaa.Ask (As RightA)
open Go.Proofs.Ytjmmijobdcepmaa.Goods (nameB)

theorem units_any (n : Int) (w : World) : Calls Try.prog 47 #[.int .i64 n] w fun e w' => e = .returned (.bool (decide (UnitP n))) ∧ w = w' := by
  by_cases h1 : 1 ≤ n
  · by_cases h2 : n ≤ 1073741824
    · rw [decide_eq_true (show UnitP n from ⟨h1, h2⟩)]
      go_enter Try.func47, Try.ntmps47
      go_wp2
      go_ret
      exact ⟨rfl, rfl⟩
    · rw [decide_eq_false (show ¬ UnitP n from fun h => h2 h.2)]
      go_enter Try.func47, Try.ntmps47
      go_wp2
      go_ret
      exact ⟨rfl, rfl⟩
  · rw [decide_eq_false (show ¬ UnitP n from fun h => h1 h.1)]
    go_enter Try.func47, Try.ntmps47
    go_wp2
    go_ret
    exact ⟨rfl, rfl⟩

set_option maxRecDepth 100000 in
set_option maxHeartbeats 1000000 in
theorem lack_any (o : Od) (h1 : -9223372036854775808 ≤ o.n - o.d) (h2 : o.n - o.d ≤ 9223372036854775807) (w : World) : Calls Try.prog 37 #[ov o] w (IntB (o.n - o.d) w) := by
  have HB := Lib.hid (al w (.cells (ocs o).toArray 29))
  unfold ocs at HB
  unfold ov
  go_enter Try.func37, Try.ntmps37
  go_wp2
  go_ret
  exact ⟨ret_int (by go_num), HB.out⟩

set_option maxRecDepth 100000 in
set_option maxHeartbeats 1000000 in
theorem isOpen_any (o : Od) (w : World) : Calls Try.prog 38 #[ov o] w (BoolB (decide (o.ph = 1 ∨ o.ph = 2)) w) := by
  have HB := Lib.hid (al w (.cells (ocs o).toArray 29))
  unfold ocs at HB
  unfold ov
  generalize o.ph = ph at *
  by_cases h1 : ph = 1
  · subst h1
    go_enter Try.func38, Try.ntmps38
    go_wp2
    go_ret
    exact ⟨rfl, HB.out⟩
  · have h2 : (ph == 1) = false := by simpa using h1
    have HM : Hid (decide (ph = 1 ∨ ph = 2) = (ph == 2)) := Lib.hid (by simp [h1]; rfl)
    clear h1
    go_enter Try.func38, Try.ntmps38
    go_wp2
    go_ret
    exact ⟨ret_bool HM.out.symm, HB.out⟩

set_option maxRecDepth 100000 in
set_option maxHeartbeats 1000000 in
theorem isClosed_any (o : Od) (w : World) : Calls Try.prog 63 #[ov o] w (BoolB (o.py.s == 3) w) := by
  have HB := Lib.hid (al w (.cells (ocs o).toArray 29))
  unfold ocs at HB
  unfold ov
  go_enter Try.func63, Try.ntmps63
  go_wp2
  go_ret
  exact ⟨rfl, HB.out⟩

theorem one_name (k : ByteArray) : Goods.rightB [k] [] = nameB k := by
  unfold Goods.rightB Goods.skusB Goods.subsB Goods.risesB Goods.twiceB
  simp
theorem one_row {w : World} {b : Nat} {k : ByteArray} (h : Box b [.string k] w) : Goods.GGood w (.slice (some ⟨b, 0, none⟩) 1 1) (.slice none 0 0) [k] [] := by
  refine ⟨⟨some ⟨b, 0, none⟩, 1, rfl, by simp, by omega, fun _ => ⟨b, 0, rfl, h.1, fun j hj => ?_⟩⟩, ⟨none, 0, rfl, by simp, by omega, fun h => absurd h (by simp)⟩⟩
  obtain rfl : j = 0 := by simp at hj; exact hj
  exact h.at 0 rfl
set_option maxRecDepth 100000 in
set_option maxHeartbeats 1000000 in
theorem isName_any (k : ByteArray) (hk : k.size ≤ 1000000) (w : World) : Calls Try.prog 32 #[.string k] w (BoolB (nameB k) w) := by
  have hx := Box.made w [.string k] 9
  have hb := al w (.cells #[.string k] 9)
  have HR := Lib.hid (Goods.Right_any (one_row hx) ⟨by simp, by simp, fun x hx => by simp at hx; rw [hx]; exact hk, fun x hx => by simp at hx⟩)
  rw [one_name] at HR
  have HB := Lib.hid hb
  clear hx hb
  generalize nameB k = m at HR ⊢
  go_enter Try.func32, Try.ntmps32
  go_wp2_with fail
  (with_reducible refine (HR.out).mono ?_)
  rintro e w' ⟨rfl, hz⟩
  have HE := Lib.hid (below_trans HB.out hz)
  clear hz
  go_wp2_with fail
  go_ret
  exact ⟨rfl, HE.out⟩

theorem one_wait (x : Queue.Wt) : Queue.rightB [x] = Queue.mayB x := by
  have h : Queue.hpB [x] = true := Queue.hpB_t.2 (fun k h1 h2 => by simp at h2; omega)
  unfold Queue.rightB Queue.allB
  rw [h]
  simp
theorem one_qrow {w : World} {b : Nat} {x : Queue.Wt} (h : Box b [.int .i64 x.c, .int .i64 x.s, .int .i64 x.o] w) : Queue.QRow w (.slice (some ⟨b, 0, none⟩) 1 1) [x] := by
  refine ⟨some ⟨b, 0, none⟩, 1, rfl, by simp, by omega, fun _ => ⟨b, 0, rfl, h.1, fun j hj => ?_⟩⟩
  obtain rfl : j = 0 := by simp at hj; exact hj
  exact ⟨h.at 0 rfl, h.at 1 rfl, h.at 2 rfl⟩
set_option maxRecDepth 100000 in
set_option maxHeartbeats 1000000 in
theorem waitMayBe_any (o : Od) (w : World) : Calls Try.prog 31 #[ov o] w (BoolB (decide (WaitP o)) w) := by
  have hb0 := al w (.cells (ocs o).toArray 29)
  have hx0 := order_box w o 29
  unfold ocs at hx0 hb0
  have hx := Box.made (w.alloc (.cells (ocs o).toArray 29)) [.int .i64 o.cl, .int .i64 o.sq, .int .i64 o.id] 60
  have hb := below_trans hb0 (al (w.alloc (.cells (ocs o).toArray 29)) (.cells #[.int .i64 o.cl, .int .i64 o.sq, .int .i64 o.id] 60))
  have HR := Lib.hid (Queue.Right_any (one_qrow (x := ⟨o.cl, o.sq, o.id⟩) hx) (by simp))
  rw [one_wait] at HR
  unfold Queue.mayB at HR
  have e : decide (Queue.mayP ⟨o.cl, o.sq, o.id⟩) = decide (WaitP o) := rfl
  rw [e] at HR
  simp only [World.size_alloc] at HR
  unfold ocs at HR hb
  have HB := Lib.hid hb
  clear hx hb hx0 hb0 e
  generalize decide (WaitP o) = m at HR ⊢
  unfold ov
  go_enter Try.func31, Try.ntmps31
  go_wp2_with fail
  (with_reducible refine (HR.out).mono ?_)
  rintro e w' ⟨rfl, hz⟩
  have HE := Lib.hid (below_trans HB.out hz)
  clear hz
  go_wp2_with fail
  go_ret
  exact ⟨rfl, HE.out⟩

/-- Its numbers; its money, what is promised of it and what was caught. -/
def NumP (o : Od) : Prop := UnitP o.n ∧ UnitP o.p ∧ 0 ≤ o.d ∧ o.d ≤ o.n ∧ TimeP o.c
instance (o : Od) : Decidable (NumP o) := by unfold NumP; exact inferInstance
def MoneyP (o : Od) : Prop := RightP o.py ∧ o.py.a = o.n * o.p ∧ o.py.c = o.d * o.p
instance (o : Od) : Decidable (MoneyP o) := by unfold MoneyP; exact inferInstance
theorem NumP.mul {o : Od} (h : NumP o) : 1 ≤ o.n * o.p ∧ o.n * o.p ≤ 1152921504606846976 ∧ 0 ≤ o.d * o.p ∧ o.d * o.p ≤ o.n * o.p := by
  obtain ⟨⟨a1, a2⟩, ⟨b1, b2⟩, c1, c2, _⟩ := h
  have a3 := Int.mul_le_mul a1 b1 (by omega) (by omega)
  have a4 := Int.mul_le_mul a2 b2 (by omega) (by omega)
  exact ⟨by omega, by omega, Int.mul_nonneg c1 (by omega), Int.mul_le_mul_of_nonneg_right c2 (by omega)⟩
set_option maxRecDepth 100000 in
set_option maxHeartbeats 1000000 in
theorem numbers_any (o : Od) (w : World) : Calls Try.prog 33 #[ov o] w (BoolB (decide (NumP o)) w) := by
  have HB := Lib.hid (al w (.cells (ocs o).toArray 29))
  have HN := Lib.hid (units_any o.n)
  have HP := Lib.hid (units_any o.p)
  have HM : Hid (decide (NumP o) = true ↔ NumP o) := Lib.hid decide_eq_true_iff
  have HF : Hid (decide (NumP o) = false ↔ ¬ NumP o) := Lib.hid decide_eq_false_iff_not
  generalize decide (NumP o) = m at HM HF ⊢
  unfold NumP TimeP at HM HF
  unfold ocs at HB
  unfold ov
  generalize o.n = n at *
  generalize o.p = p at *
  generalize o.d = d at *
  generalize o.c = c at *
  by_cases h1 : UnitP n
  · rw [decide_eq_true h1] at HN
    by_cases h2 : UnitP p
    · rw [decide_eq_true h2] at HP
      by_cases h3 : 0 ≤ d
      · by_cases h4 : d ≤ n
        · by_cases h5 : 0 ≤ c
          · have HC : Hid (m = decide (c ≤ 1099511627776)) := Lib.hid (by
              by_cases h6 : c ≤ 1099511627776
              · rw [decide_eq_true h6]; exact HM.out.2 ⟨h1, h2, h3, h4, h5, h6⟩
              · rw [decide_eq_false h6]; exact HF.out.2 (fun h => h6 h.2.2.2.2.2))
            clear HM HF h1 h2
            go_enter Try.func33, Try.ntmps33
            go_wp2_with (first | (go_at_call 47; (with_reducible refine (HN.out _).mono ?_); rintro e w' ⟨rfl, rfl⟩) | (go_at_call 47; (with_reducible refine (HP.out _).mono ?_); rintro e w' ⟨rfl, rfl⟩))
            go_ret
            exact ⟨ret_bool HC.out.symm, HB.out⟩
          · obtain rfl := HF.out.2 (fun h => h5 h.2.2.2.2.1)
            clear HM HF h1 h2
            go_enter Try.func33, Try.ntmps33
            go_wp2_with (first | (go_at_call 47; (with_reducible refine (HN.out _).mono ?_); rintro e w' ⟨rfl, rfl⟩) | (go_at_call 47; (with_reducible refine (HP.out _).mono ?_); rintro e w' ⟨rfl, rfl⟩))
            go_ret
            exact ⟨rfl, HB.out⟩
        · obtain rfl := HF.out.2 (fun h => h4 h.2.2.2.1)
          clear HM HF h1 h2
          go_enter Try.func33, Try.ntmps33
          go_wp2_with (first | (go_at_call 47; (with_reducible refine (HN.out _).mono ?_); rintro e w' ⟨rfl, rfl⟩) | (go_at_call 47; (with_reducible refine (HP.out _).mono ?_); rintro e w' ⟨rfl, rfl⟩))
          go_ret
          exact ⟨rfl, HB.out⟩
      · obtain rfl := HF.out.2 (fun h => h3 h.2.2.1)
        clear HM HF h1 h2
        go_enter Try.func33, Try.ntmps33
        go_wp2_with (first | (go_at_call 47; (with_reducible refine (HN.out _).mono ?_); rintro e w' ⟨rfl, rfl⟩) | (go_at_call 47; (with_reducible refine (HP.out _).mono ?_); rintro e w' ⟨rfl, rfl⟩))
        go_ret
        exact ⟨rfl, HB.out⟩
    · obtain rfl := HF.out.2 (fun h => h2 h.2.1)
      rw [decide_eq_false h2] at HP
      clear HM HF h1 h2
      go_enter Try.func33, Try.ntmps33
      go_wp2_with (first | (go_at_call 47; (with_reducible refine (HN.out _).mono ?_); rintro e w' ⟨rfl, rfl⟩) | (go_at_call 47; (with_reducible refine (HP.out _).mono ?_); rintro e w' ⟨rfl, rfl⟩))
      go_ret
      exact ⟨rfl, HB.out⟩
  · obtain rfl := HF.out.2 (fun h => h1 h.1)
    rw [decide_eq_false h1] at HN
    clear HM HF h1
    go_enter Try.func33, Try.ntmps33
    go_wp2_with (first | (go_at_call 47; (with_reducible refine (HN.out _).mono ?_); rintro e w' ⟨rfl, rfl⟩) | (go_at_call 47; (with_reducible refine (HP.out _).mono ?_); rintro e w' ⟨rfl, rfl⟩))
    go_ret
    exact ⟨rfl, HB.out⟩

set_option maxRecDepth 100000 in
set_option maxHeartbeats 1000000 in
theorem money_any (o : Od) (h : NumP o) (w : World) : Calls Try.prog 34 #[ov o] w (BoolB (decide (MoneyP o)) w) := by
  obtain ⟨m1, m2, m3, m4⟩ := h.mul
  have hb := al w (.cells (ocs o).toArray 29)
  have hx := order_box w o 29
  have HR := Lib.hid (Pay.Right_any o.py)
  unfold Pay.pv at HR
  obtain ⟨W0, hW0⟩ : ∃ W, w.alloc (.cells (ocs o).toArray 29) = W := ⟨_, rfl⟩
  have HX : Hid (Box w.heap.size (ocs o) W0) := Lib.hid (hW0 ▸ hx)
  have HB : Hid (Below w.heap.size w W0) := Lib.hid (hW0 ▸ hb)
  clear hx hb
  unfold ocs at hW0
  unfold ov
  cases hr : Pay.rightB o.py with
  | false =>
    have e : decide (MoneyP o) = false := decide_eq_false (fun g => Pay.rightB_f.1 hr g.1)
    rw [e]
    rw [hr] at HR
    obtain ⟨y0, y1, y2, y3, y4, y5, y6, y7, y8, y9, y10, y11, y12, y13, y14, y15, y16, y17, y18, y19, y20⟩ := HX.out.c21
    clear hr e
    go_enter Try.func34, Try.ntmps34
    go_upto_region 1 with (fail)
    clear hW0
    go_wp2_with fail
    (with_reducible refine (HR.out _).mono ?_)
    rintro e w' ⟨rfl, hz⟩
    have HE := Lib.hid (below_trans HB.out hz)
    clear hz
    go_wp2_with fail
    go_ret
    exact ⟨rfl, HE.out⟩
  | true =>
    have HD : Hid (decide (MoneyP o) = (o.py.a == o.n * o.p && o.py.c == o.d * o.p)) := Lib.hid (by
      have := Pay.rightB_t.1 hr
      by_cases q1 : o.py.a = o.n * o.p
      · by_cases q2 : o.py.c = o.d * o.p
        · rw [decide_eq_true (show MoneyP o from ⟨this, q1, q2⟩), q1, q2]; simp
        · rw [decide_eq_false (show ¬ MoneyP o from fun g => q2 g.2.2)]; simp [q2]
      · rw [decide_eq_false (show ¬ MoneyP o from fun g => q1 g.2.1)]; simp [q1])
    generalize decide (MoneyP o) = m at HD ⊢
    rw [hr] at HR
    obtain ⟨y0, y1, y2, y3, y4, y5, y6, y7, y8, y9, y10, y11, y12, y13, y14, y15, y16, y17, y18, y19, y20⟩ := HX.out.c21
    have hp1 : IntKind.i64.wrap (o.n * o.p) = o.n * o.p := IntWalk.i64_in _ (by omega)
    have hp2 : IntKind.i64.wrap (o.d * o.p) = o.d * o.p := IntWalk.i64_in _ (by omega)
    clear hr h m1 m2 m3 m4
    go_enter Try.func34, Try.ntmps34
    go_upto_region 1 with (fail)
    clear hW0
    go_wp2_with fail
    (with_reducible refine (HR.out _).mono ?_)
    rintro e w' ⟨rfl, hz⟩
    have HE := Lib.hid (below_trans HB.out hz)
    obtain ⟨y0, y1, y2, y3, y4, y5, y6, y7, y8, y9, y10, y11, y12, y13, y14, y15, y16, y17, y18, y19, y20⟩ := (HX.out.below hz).c21
    clear hz
    go_wp2_with fail
    all_goals (go_ret; exact ⟨ret_bool (by rw [HD.out]; simp_all), HE.out⟩)
end Go.Proofs.Ytjmmijobdcepmaa.Order
