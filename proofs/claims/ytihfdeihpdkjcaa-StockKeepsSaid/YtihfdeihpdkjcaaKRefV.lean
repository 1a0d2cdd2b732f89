/-
  Contract of the reference: Move.
-/
import Derived.Test.YtihfdeihpdkjcaaKRefM
namespace Go.Proofs.Ytihfdeihpdkjcaa.Goods.Stk
open Go.ChangeShapes Go.WideShapes Go.ChangeAt Go.RowKit Go.Shelf Go.Lib

set_option maxRecDepth 100000 in
set_option maxHeartbeats 8000000 in
theorem refMove_any (q : Nat) (hq : q = 1 ∨ q = 2 ∨ q = 3 ∨ q = 4) {v : Value} {l : List Rw} {w : World} (h : SRow w v l) (hl : Brief l) (k : ByteArray) (n : Int) : Calls Try.prog 16 #[v, .string k, .int .i64 n, .int .i64 q] w (TE (moveO q l k n) (moveE q l k n) w) := by
  have hw := moveE_ways q l k n
  have hr := fun W (hb : Below w.heap.size w W) => refRightS_any (h.below hb) hl
  have hu := fun W => refUnits_any n W
  have hg := fun W (hb : Below w.heap.size w W) => refGet_any (h.below hb) k
  have HS := Lib.hid (fun (x : Rw) (hx : x.s.size ≤ 1000000) (hp : l.Pairwise (fun a b => ltR a b = true)) W (hb : Below w.heap.size w W) => refSet_any (h.below hb) hl x hx hp)
  have HBR := Lib.hid hl
  obtain ⟨a, cap, rfl⟩ := h.slice
  unfold moveO
  have hx0 := Box.made w [.slice none 0 0, .int .i64 0] 32
  have hb0 := al w (.cells #[.slice none 0 0, .int .i64 0] 32)
  obtain ⟨W0, hW0⟩ : ∃ W, w.alloc (.cells #[.slice none 0 0, .int .i64 0] 32) = W := ⟨_, rfl⟩
  rw [hW0] at hx0 hb0
  have HX0 := Lib.hid hx0
  have HB0 := Lib.hid hb0
  clear h hl hx0 hb0
  rcases hw with ⟨e1, e2⟩ | ⟨e1, e2, e3⟩ | ⟨e1, e2, e3, e4⟩ | ⟨x, e1, e2, e3, ⟨e4, e5⟩ | ⟨e4, e5, e6⟩⟩
  · rw [e2, if_neg (by decide)]
    rw [e1] at hr
    have HR := Lib.hid hr
    clear hr hu hg e1 e2
    go_enter Try.func16, Try.ntmps16
    go_wp2_with fail
    clear hW0
    (with_reducible refine (HR.out _ HB0.out).mono ?_)
    rintro e w1 ⟨rfl, hz⟩
    have HB1 := Lib.hid (below_trans HB0.out hz)
    have HX1 := Lib.hid (HX0.out.below hz)
    clear hz
    obtain ⟨q0, q1⟩ := HX1.out.c2
    obtain ⟨r0, r1⟩ := HX1.out.y2
    have hsq := HX1.out.1
    have HE := Lib.hid (below_pair (b := w.heap.size) (.slice none 0 0) (.int .i64 1) HB1.out (Nat.le_refl _))
    go_wp2_with fail
    exact bodyPost_ret (by simp [results, Try.results16, go_sem, q0, q1]) rfl ⟨_, rfl, SRow.nil _, HE.out⟩
  · rw [e3, if_neg (by decide)]
    rw [e1] at hr
    rw [decide_eq_false e2] at hu
    have HR := Lib.hid hr
    have HU := Lib.hid hu
    clear hr hu hg e1 e2 e3
    go_enter Try.func16, Try.ntmps16
    go_wp2_with fail
    clear hW0
    (with_reducible refine (HR.out _ HB0.out).mono ?_)
    rintro e w1 ⟨rfl, hz⟩
    have HB1 := Lib.hid (below_trans HB0.out hz)
    have HX1 := Lib.hid (HX0.out.below hz)
    clear hz
    obtain ⟨q0, q1⟩ := HX1.out.c2
    obtain ⟨r0, r1⟩ := HX1.out.y2
    have hsq := HX1.out.1
    have HE := Lib.hid (below_pair (b := w.heap.size) (.slice none 0 0) (.int .i64 1) HB1.out (Nat.le_refl _))
    go_wp2_with (go_at_call 26; (with_reducible refine (HU.out _).mono ?_); rintro e w2 ⟨rfl, rfl⟩)
    exact bodyPost_ret (by simp [results, Try.results16, go_sem, q0, q1]) rfl ⟨_, rfl, SRow.nil _, HE.out⟩
  · rw [e4, if_neg (by decide)]
    rw [e1] at hr
    rw [decide_eq_true e2] at hu
    rw [e3] at hg
    have HR := Lib.hid hr
    have HU := Lib.hid hu
    have HG := Lib.hid hg
    unfold RowE rv at HG
    simp only [Option.getD_none, noR] at HG
    have hnil := nil_eq
    clear hr hu hg e1 e2 e3 e4
    go_enter Try.func16, Try.ntmps16
    go_wp2_with fail
    clear hW0
    (with_reducible refine (HR.out _ HB0.out).mono ?_)
    rintro e w1 ⟨rfl, hz⟩
    have HB1 := Lib.hid (below_trans HB0.out hz)
    have HX1 := Lib.hid (HX0.out.below hz)
    clear hz
    go_wp2_with (go_at_call 26; (with_reducible refine (HU.out _).mono ?_); rintro e w2 ⟨rfl, rfl⟩)
    (with_reducible refine (HG.out _ HB1.out).mono ?_)
    rintro e w3 ⟨rfl, hz⟩
    have HB3 := Lib.hid (below_trans HB1.out hz)
    have HX3 := Lib.hid (HX1.out.below hz)
    clear hz
    have HB4 := Lib.hid (below_trans HB3.out (al w3 (.cells #[.string ⟨#[]⟩, .int .i64 0, .int .i64 0, .int .i64 0, .int .i64 0, .int .i64 0] 25)))
    have HX4 := Lib.hid (HX3.out.below (al w3 (.cells #[.string ⟨#[]⟩, .int .i64 0, .int .i64 0, .int .i64 0, .int .i64 0, .int .i64 0] 25)))
    obtain ⟨q0, q1⟩ := HX4.out.c2
    obtain ⟨r0, r1⟩ := HX4.out.y2
    have hsq := HX4.out.1
    have HE := Lib.hid (below_pair (b := w.heap.size) (.slice none 0 0) (.int .i64 8) HB4.out (Nat.le_refl _))
    go_wp2_with fail
    exact bodyPost_ret (by simp [results, Try.results16, go_sem, q0, q1]) rfl ⟨_, rfl, SRow.nil _, HE.out⟩
  · rw [e5, if_neg (by decide)]
    rw [e1] at hr
    rw [decide_eq_true e2] at hu
    rw [e3] at hg
    have HR := Lib.hid hr
    have HU := Lib.hid hu
    have HG := Lib.hid hg
    unfold RowE rv at HG
    simp only [Option.getD_some] at HG
    obtain ⟨rfl, hxm⟩ := getL_name e3
    have hnm := (rightS_t.1 e1).2.1 x hxm
    have hne := name_ne hnm
    have hne2 := name_full hnm
    obtain ⟨⟨a1, a2⟩, ⟨b1, b2⟩, ⟨c1, c2⟩, ⟨d1, d2⟩, ⟨t1, t2⟩, -⟩ := (rightS_t.1 e1).2.2.2 x hxm
    obtain ⟨n1, n2⟩ := e2
    clear hr hu hg e1 e3 e5 hxm hnm
    rcases hq with rfl | rfl | rfl | rfl
    · rw [show ((1 : Nat) : Int) = 1 from rfl]
      have e4' : x.f < n := e4
      clear e4
      go_enter Try.func16, Try.ntmps16
      go_wp2_with fail
      clear hW0
      (with_reducible refine (HR.out _ HB0.out).mono ?_)
      rintro e w1 ⟨rfl, hz⟩
      have HB1 := Lib.hid (below_trans HB0.out hz)
      have HX1 := Lib.hid (HX0.out.below hz)
      clear hz
      go_wp2_with (go_at_call 26; (with_reducible refine (HU.out _).mono ?_); rintro e w2 ⟨rfl, rfl⟩)
      (with_reducible refine (HG.out _ HB1.out).mono ?_)
      rintro e w3 ⟨rfl, hz⟩
      have HB3 := Lib.hid (below_trans HB1.out hz)
      have HX3 := Lib.hid (HX1.out.below hz)
      clear hz
      have HB4 := Lib.hid (below_trans HB3.out (al w3 (.cells #[.string x.s, .int .i64 x.n, .int .i64 x.f, .int .i64 x.h, .int .i64 x.p, .int .i64 x.t] 25)))
      have HX4 := Lib.hid (HX3.out.below (al w3 (.cells #[.string x.s, .int .i64 x.n, .int .i64 x.f, .int .i64 x.h, .int .i64 x.p, .int .i64 x.t] 25)))
      obtain ⟨q0, q1⟩ := HX4.out.c2
      obtain ⟨r0, r1⟩ := HX4.out.y2
      have hsq := HX4.out.1
      have HE := Lib.hid (below_pair (b := w.heap.size) (.slice none 0 0) (.int .i64 11) HB4.out (Nat.le_refl _))
      go_wp2_with fail
      exact bodyPost_ret (by simp [results, Try.results16, go_sem, q0, q1]) rfl ⟨_, rfl, SRow.nil _, HE.out⟩
    · rw [show ((2 : Nat) : Int) = 2 from rfl]
      have e4' : x.h < n := e4
      clear e4
      go_enter Try.func16, Try.ntmps16
      go_wp2_with fail
      clear hW0
      (with_reducible refine (HR.out _ HB0.out).mono ?_)
      rintro e w1 ⟨rfl, hz⟩
      have HB1 := Lib.hid (below_trans HB0.out hz)
      have HX1 := Lib.hid (HX0.out.below hz)
      clear hz
      go_wp2_with (go_at_call 26; (with_reducible refine (HU.out _).mono ?_); rintro e w2 ⟨rfl, rfl⟩)
      (with_reducible refine (HG.out _ HB1.out).mono ?_)
      rintro e w3 ⟨rfl, hz⟩
      have HB3 := Lib.hid (below_trans HB1.out hz)
      have HX3 := Lib.hid (HX1.out.below hz)
      clear hz
      have HB4 := Lib.hid (below_trans HB3.out (al w3 (.cells #[.string x.s, .int .i64 x.n, .int .i64 x.f, .int .i64 x.h, .int .i64 x.p, .int .i64 x.t] 25)))
      have HX4 := Lib.hid (HX3.out.below (al w3 (.cells #[.string x.s, .int .i64 x.n, .int .i64 x.f, .int .i64 x.h, .int .i64 x.p, .int .i64 x.t] 25)))
      obtain ⟨q0, q1⟩ := HX4.out.c2
      obtain ⟨r0, r1⟩ := HX4.out.y2
      have hsq := HX4.out.1
      have HE := Lib.hid (below_pair (b := w.heap.size) (.slice none 0 0) (.int .i64 11) HB4.out (Nat.le_refl _))
      go_wp2_with fail
      exact bodyPost_ret (by simp [results, Try.results16, go_sem, q0, q1]) rfl ⟨_, rfl, SRow.nil _, HE.out⟩
    · rw [show ((3 : Nat) : Int) = 3 from rfl]
      have e4' : x.h < n := e4
      clear e4
      go_enter Try.func16, Try.ntmps16
      go_wp2_with fail
      clear hW0
      (with_reducible refine (HR.out _ HB0.out).mono ?_)
      rintro e w1 ⟨rfl, hz⟩
      have HB1 := Lib.hid (below_trans HB0.out hz)
      have HX1 := Lib.hid (HX0.out.below hz)
      clear hz
      go_wp2_with (go_at_call 26; (with_reducible refine (HU.out _).mono ?_); rintro e w2 ⟨rfl, rfl⟩)
      (with_reducible refine (HG.out _ HB1.out).mono ?_)
      rintro e w3 ⟨rfl, hz⟩
      have HB3 := Lib.hid (below_trans HB1.out hz)
      have HX3 := Lib.hid (HX1.out.below hz)
      clear hz
      have HB4 := Lib.hid (below_trans HB3.out (al w3 (.cells #[.string x.s, .int .i64 x.n, .int .i64 x.f, .int .i64 x.h, .int .i64 x.p, .int .i64 x.t] 25)))
      have HX4 := Lib.hid (HX3.out.below (al w3 (.cells #[.string x.s, .int .i64 x.n, .int .i64 x.f, .int .i64 x.h, .int .i64 x.p, .int .i64 x.t] 25)))
      obtain ⟨q0, q1⟩ := HX4.out.c2
      obtain ⟨r0, r1⟩ := HX4.out.y2
      have hsq := HX4.out.1
      have HE := Lib.hid (below_pair (b := w.heap.size) (.slice none 0 0) (.int .i64 11) HB4.out (Nat.le_refl _))
      go_wp2_with fail
      exact bodyPost_ret (by simp [results, Try.results16, go_sem, q0, q1]) rfl ⟨_, rfl, SRow.nil _, HE.out⟩
    · rw [show ((4 : Nat) : Int) = 4 from rfl]
      have e4' : x.f < n := e4
      clear e4
      go_enter Try.func16, Try.ntmps16
      go_wp2_with fail
      clear hW0
      (with_reducible refine (HR.out _ HB0.out).mono ?_)
      rintro e w1 ⟨rfl, hz⟩
      have HB1 := Lib.hid (below_trans HB0.out hz)
      have HX1 := Lib.hid (HX0.out.below hz)
      clear hz
      go_wp2_with (go_at_call 26; (with_reducible refine (HU.out _).mono ?_); rintro e w2 ⟨rfl, rfl⟩)
      (with_reducible refine (HG.out _ HB1.out).mono ?_)
      rintro e w3 ⟨rfl, hz⟩
      have HB3 := Lib.hid (below_trans HB1.out hz)
      have HX3 := Lib.hid (HX1.out.below hz)
      clear hz
      have HB4 := Lib.hid (below_trans HB3.out (al w3 (.cells #[.string x.s, .int .i64 x.n, .int .i64 x.f, .int .i64 x.h, .int .i64 x.p, .int .i64 x.t] 25)))
      have HX4 := Lib.hid (HX3.out.below (al w3 (.cells #[.string x.s, .int .i64 x.n, .int .i64 x.f, .int .i64 x.h, .int .i64 x.p, .int .i64 x.t] 25)))
      obtain ⟨q0, q1⟩ := HX4.out.c2
      obtain ⟨r0, r1⟩ := HX4.out.y2
      have hsq := HX4.out.1
      have HE := Lib.hid (below_pair (b := w.heap.size) (.slice none 0 0) (.int .i64 11) HB4.out (Nat.le_refl _))
      go_wp2_with fail
      exact bodyPost_ret (by simp [results, Try.results16, go_sem, q0, q1]) rfl ⟨_, rfl, SRow.nil _, HE.out⟩
  · rw [e5, if_pos rfl, e6]
    rw [e1] at hr
    rw [decide_eq_true e2] at hu
    rw [e3] at hg
    have HR := Lib.hid hr
    have HU := Lib.hid hu
    have HG := Lib.hid hg
    unfold RowE rv at HG
    simp only [Option.getD_some] at HG
    obtain ⟨rfl, hxm⟩ := getL_name e3
    have hnm := (rightS_t.1 e1).2.1 x hxm
    have hne := name_ne hnm
    have hne2 := name_full hnm
    obtain ⟨⟨a1, a2⟩, ⟨b1, b2⟩, ⟨c1, c2⟩, ⟨d1, d2⟩, ⟨t1, t2⟩, -⟩ := (rightS_t.1 e1).2.2.2 x hxm
    obtain ⟨n1, n2⟩ := e2
    have hst := HS.out (mvR (src q) (dst q) n x) (by rw [mvR_s]; exact HBR.out.2 x hxm) (rightS_t.1 e1).2.2.1
    clear hr hu hg e1 e3 e5 e6 hxm hnm
    rcases hq with rfl | rfl | rfl | rfl
    · rw [show ((1 : Nat) : Int) = 1 from rfl]
      have e4' : ¬ x.f < n := e4
      have hz0 : rv (mvR (src 1) (dst 1) n x) = .agg #[.string x.s, .int .i64 x.n, .int .i64 (x.f - n), .int .i64 (x.h + n), .int .i64 x.p, .int .i64 x.t] := rfl
      rw [hz0] at hst
      have HST := Lib.hid hst
      clear e4 hst hz0
      go_enter Try.func16, Try.ntmps16
      go_wp2_with fail
      clear hW0
      (with_reducible refine (HR.out _ HB0.out).mono ?_)
      rintro e w1 ⟨rfl, hz⟩
      have HB1 := Lib.hid (below_trans HB0.out hz)
      have HX1 := Lib.hid (HX0.out.below hz)
      clear hz
      go_wp2_with (go_at_call 26; (with_reducible refine (HU.out _).mono ?_); rintro e w2 ⟨rfl, rfl⟩)
      (with_reducible refine (HG.out _ HB1.out).mono ?_)
      rintro e w3 ⟨rfl, hz⟩
      have HB3 := Lib.hid (below_trans HB1.out hz)
      have HX3 := Lib.hid (HX1.out.below hz)
      clear hz
      have HB4 := Lib.hid (below_trans HB3.out (al w3 (.cells #[.string x.s, .int .i64 x.n, .int .i64 (x.f - n), .int .i64 (x.h + n), .int .i64 x.p, .int .i64 x.t] 25)))
      have HX4 := Lib.hid (HX3.out.below (al w3 (.cells #[.string x.s, .int .i64 x.n, .int .i64 (x.f - n), .int .i64 (x.h + n), .int .i64 x.p, .int .i64 x.t] 25)))
      have HSS := Lib.hid (HST.out _ HB4.out)
      go_wp2_with fail
      (with_reducible refine HSS.out.mono ?_)
      rintro e w5 ⟨v5, rfl, ho, hz⟩
      have HX5 := Lib.hid (HX4.out.below hz)
      obtain ⟨va, vn, vc, rfl⟩ : ∃ a n c, v5 = .slice a n c := (by obtain ⟨a', c', e⟩ := ho.row.slice; exact ⟨a', _, c', e⟩)
      have HE := Lib.hid (t_end (b := w.heap.size) (.int .i64 0) ho.row (below_trans HB4.out hz) (Nat.le_refl _) (fun g hg => by have := (World.ownsRow.lt ho g hg).1; have := HB3.out.size; simp only [World.size_alloc] at *; omega))
      obtain ⟨q0, q1⟩ := HX5.out.c2
      obtain ⟨r0, r1⟩ := HX5.out.y2
      have hsq := HX5.out.1
      clear ho hz
      go_wp2_with fail
      exact bodyPost_ret (by simp [results, Try.results16, go_sem, q0, q1]) rfl ⟨_, rfl, HE.out.1, HE.out.2⟩
    · rw [show ((2 : Nat) : Int) = 2 from rfl]
      have e4' : ¬ x.h < n := e4
      have hz0 : rv (mvR (src 2) (dst 2) n x) = .agg #[.string x.s, .int .i64 x.n, .int .i64 (x.f + n), .int .i64 (x.h - n), .int .i64 x.p, .int .i64 x.t] := rfl
      rw [hz0] at hst
      have HST := Lib.hid hst
      clear e4 hst hz0
      go_enter Try.func16, Try.ntmps16
      go_wp2_with fail
      clear hW0
      (with_reducible refine (HR.out _ HB0.out).mono ?_)
      rintro e w1 ⟨rfl, hz⟩
      have HB1 := Lib.hid (below_trans HB0.out hz)
      have HX1 := Lib.hid (HX0.out.below hz)
      clear hz
      go_wp2_with (go_at_call 26; (with_reducible refine (HU.out _).mono ?_); rintro e w2 ⟨rfl, rfl⟩)
      (with_reducible refine (HG.out _ HB1.out).mono ?_)
      rintro e w3 ⟨rfl, hz⟩
      have HB3 := Lib.hid (below_trans HB1.out hz)
      have HX3 := Lib.hid (HX1.out.below hz)
      clear hz
      have HB4 := Lib.hid (below_trans HB3.out (al w3 (.cells #[.string x.s, .int .i64 x.n, .int .i64 (x.f + n), .int .i64 (x.h - n), .int .i64 x.p, .int .i64 x.t] 25)))
      have HX4 := Lib.hid (HX3.out.below (al w3 (.cells #[.string x.s, .int .i64 x.n, .int .i64 (x.f + n), .int .i64 (x.h - n), .int .i64 x.p, .int .i64 x.t] 25)))
      have HSS := Lib.hid (HST.out _ HB4.out)
      go_wp2_with fail
      (with_reducible refine HSS.out.mono ?_)
      rintro e w5 ⟨v5, rfl, ho, hz⟩
      have HX5 := Lib.hid (HX4.out.below hz)
      obtain ⟨va, vn, vc, rfl⟩ : ∃ a n c, v5 = .slice a n c := (by obtain ⟨a', c', e⟩ := ho.row.slice; exact ⟨a', _, c', e⟩)
      have HE := Lib.hid (t_end (b := w.heap.size) (.int .i64 0) ho.row (below_trans HB4.out hz) (Nat.le_refl _) (fun g hg => by have := (World.ownsRow.lt ho g hg).1; have := HB3.out.size; simp only [World.size_alloc] at *; omega))
      obtain ⟨q0, q1⟩ := HX5.out.c2
      obtain ⟨r0, r1⟩ := HX5.out.y2
      have hsq := HX5.out.1
      clear ho hz
      go_wp2_with fail
      exact bodyPost_ret (by simp [results, Try.results16, go_sem, q0, q1]) rfl ⟨_, rfl, HE.out.1, HE.out.2⟩
    · rw [show ((3 : Nat) : Int) = 3 from rfl]
      have e4' : ¬ x.h < n := e4
      have hz0 : rv (mvR (src 3) (dst 3) n x) = .agg #[.string x.s, .int .i64 x.n, .int .i64 x.f, .int .i64 (x.h - n), .int .i64 (x.p + n), .int .i64 x.t] := rfl
      rw [hz0] at hst
      have HST := Lib.hid hst
      clear e4 hst hz0
      go_enter Try.func16, Try.ntmps16
      go_wp2_with fail
      clear hW0
      (with_reducible refine (HR.out _ HB0.out).mono ?_)
      rintro e w1 ⟨rfl, hz⟩
      have HB1 := Lib.hid (below_trans HB0.out hz)
      have HX1 := Lib.hid (HX0.out.below hz)
      clear hz
      go_wp2_with (go_at_call 26; (with_reducible refine (HU.out _).mono ?_); rintro e w2 ⟨rfl, rfl⟩)
      (with_reducible refine (HG.out _ HB1.out).mono ?_)
      rintro e w3 ⟨rfl, hz⟩
      have HB3 := Lib.hid (below_trans HB1.out hz)
      have HX3 := Lib.hid (HX1.out.below hz)
      clear hz
      have HB4 := Lib.hid (below_trans HB3.out (al w3 (.cells #[.string x.s, .int .i64 x.n, .int .i64 x.f, .int .i64 (x.h - n), .int .i64 (x.p + n), .int .i64 x.t] 25)))
      have HX4 := Lib.hid (HX3.out.below (al w3 (.cells #[.string x.s, .int .i64 x.n, .int .i64 x.f, .int .i64 (x.h - n), .int .i64 (x.p + n), .int .i64 x.t] 25)))
      have HSS := Lib.hid (HST.out _ HB4.out)
      go_wp2_with fail
      (with_reducible refine HSS.out.mono ?_)
      rintro e w5 ⟨v5, rfl, ho, hz⟩
      have HX5 := Lib.hid (HX4.out.below hz)
      obtain ⟨va, vn, vc, rfl⟩ : ∃ a n c, v5 = .slice a n c := (by obtain ⟨a', c', e⟩ := ho.row.slice; exact ⟨a', _, c', e⟩)
      have HE := Lib.hid (t_end (b := w.heap.size) (.int .i64 0) ho.row (below_trans HB4.out hz) (Nat.le_refl _) (fun g hg => by have := (World.ownsRow.lt ho g hg).1; have := HB3.out.size; simp only [World.size_alloc] at *; omega))
      obtain ⟨q0, q1⟩ := HX5.out.c2
      obtain ⟨r0, r1⟩ := HX5.out.y2
      have hsq := HX5.out.1
      clear ho hz
      go_wp2_with fail
      exact bodyPost_ret (by simp [results, Try.results16, go_sem, q0, q1]) rfl ⟨_, rfl, HE.out.1, HE.out.2⟩
    · rw [show ((4 : Nat) : Int) = 4 from rfl]
      have e4' : ¬ x.f < n := e4
      have hz0 : rv (mvR (src 4) (dst 4) n x) = .agg #[.string x.s, .int .i64 x.n, .int .i64 (x.f - n), .int .i64 x.h, .int .i64 x.p, .int .i64 (x.t + n)] := rfl
      rw [hz0] at hst
      have HST := Lib.hid hst
      clear e4 hst hz0
      go_enter Try.func16, Try.ntmps16
      go_wp2_with fail
      clear hW0
      (with_reducible refine (HR.out _ HB0.out).mono ?_)
      rintro e w1 ⟨rfl, hz⟩
      have HB1 := Lib.hid (below_trans HB0.out hz)
      have HX1 := Lib.hid (HX0.out.below hz)
      clear hz
      go_wp2_with (go_at_call 26; (with_reducible refine (HU.out _).mono ?_); rintro e w2 ⟨rfl, rfl⟩)
      (with_reducible refine (HG.out _ HB1.out).mono ?_)
      rintro e w3 ⟨rfl, hz⟩
      have HB3 := Lib.hid (below_trans HB1.out hz)
      have HX3 := Lib.hid (HX1.out.below hz)
      clear hz
      have HB4 := Lib.hid (below_trans HB3.out (al w3 (.cells #[.string x.s, .int .i64 x.n, .int .i64 (x.f - n), .int .i64 x.h, .int .i64 x.p, .int .i64 (x.t + n)] 25)))
      have HX4 := Lib.hid (HX3.out.below (al w3 (.cells #[.string x.s, .int .i64 x.n, .int .i64 (x.f - n), .int .i64 x.h, .int .i64 x.p, .int .i64 (x.t + n)] 25)))
      have HSS := Lib.hid (HST.out _ HB4.out)
      go_wp2_with fail
      (with_reducible refine HSS.out.mono ?_)
      rintro e w5 ⟨v5, rfl, ho, hz⟩
      have HX5 := Lib.hid (HX4.out.below hz)
      obtain ⟨va, vn, vc, rfl⟩ : ∃ a n c, v5 = .slice a n c := (by obtain ⟨a', c', e⟩ := ho.row.slice; exact ⟨a', _, c', e⟩)
      have HE := Lib.hid (t_end (b := w.heap.size) (.int .i64 0) ho.row (below_trans HB4.out hz) (Nat.le_refl _) (fun g hg => by have := (World.ownsRow.lt ho g hg).1; have := HB3.out.size; simp only [World.size_alloc] at *; omega))
      obtain ⟨q0, q1⟩ := HX5.out.c2
      obtain ⟨r0, r1⟩ := HX5.out.y2
      have hsq := HX5.out.1
      clear ho hz
      go_wp2_with fail
      exact bodyPost_ret (by simp [results, Try.results16, go_sem, q0, q1]) rfl ⟨_, rfl, HE.out.1, HE.out.2⟩
end Go.Proofs.Ytihfdeihpdkjcaa.Goods.Stk
