/-
  Contracts of the reference: Receive, Move.
-/
import Derived.Test.YtihfdeihpdkjcaaKRefS
import Derived.Test.YtihfdeihpdkjcaaKRefR
namespace Go.Proofs.Ytihfdeihpdkjcaa.Goods.Stk
open Go.ChangeShapes Go.WideShapes Go.ChangeAt Go.RowKit Go.Shelf Go.Lib

/-- A stock and an error in one are returned. -/
def TE (l : List Rw) (z : Int) (w : World) (e : Ending) (w' : World) : Prop := ∃ v, e = .returned (.agg #[v, .int .i64 z]) ∧ SRow w' v l ∧ Below w.heap.size w w'
theorem _root_.Go.Proofs.Ytihfdeihpdkjcaa.Goods.Box.y2 {b : Nat} {c0 c1 : Value} {w : World} (h : Box b [c0, c1] w) : w.frozen? ⟨b, 0, none⟩ = false ∧ w.frozen? ⟨b, 1, none⟩ = false := ⟨(h.2 0 _ rfl).2, (h.2 1 _ rfl).2⟩
/-- Behind the result's stores. -/
theorem t_end {W w : World} {b : Nat} {v : Value} {l : List Rw} (u : Value) (hr : SRow w v l) (hb : Below W.heap.size W w) (hB : W.heap.size ≤ b) (hne : ∀ g, v.ownBlock = some g → g ≠ b) :
    SRow ((w.setCell ⟨b, 0, none⟩ v).setCell ⟨b, 1, none⟩ u) v l ∧ Below W.heap.size W ((w.setCell ⟨b, 0, none⟩ v).setCell ⟨b, 1, none⟩ u) := by
  refine ⟨?_, (hb.setCell hB _).setCell hB _⟩
  obtain ⟨a, cap, e, h1, h2, h3⟩ := hr
  refine ⟨a, cap, e, h1, h2, fun h0 => ?_⟩
  obtain ⟨g, off, ea, hbl, hc⟩ := h3 h0
  refine ⟨g, off, ea, by simpa using hbl, fun i hi => ?_⟩
  have ne : ∀ k j, (⟨b, k, none⟩ : Addr) ≠ ⟨g, j, none⟩ := fun k j hh => by injection hh with hh; exact hne g (by rw [e, ea]; rfl) hh.symm
  obtain ⟨k0, k1, k2, k3, k4, k5⟩ := hc i hi
  exact ⟨((World.cell?_setCell_other _ _ _ _ (ne _ _)).trans (World.cell?_setCell_other _ _ _ _ (ne _ _))).trans k0, ((World.cell?_setCell_other _ _ _ _ (ne _ _)).trans (World.cell?_setCell_other _ _ _ _ (ne _ _))).trans k1, ((World.cell?_setCell_other _ _ _ _ (ne _ _)).trans (World.cell?_setCell_other _ _ _ _ (ne _ _))).trans k2, ((World.cell?_setCell_other _ _ _ _ (ne _ _)).trans (World.cell?_setCell_other _ _ _ _ (ne _ _))).trans k3, ((World.cell?_setCell_other _ _ _ _ (ne _ _)).trans (World.cell?_setCell_other _ _ _ _ (ne _ _))).trans k4, ((World.cell?_setCell_other _ _ _ _ (ne _ _)).trans (World.cell?_setCell_other _ _ _ _ (ne _ _))).trans k5⟩
theorem name_ne {k : ByteArray} (h : nameB k = true) : (k.toList == (⟨#[]⟩ : ByteArray).toList) = false := bytes_no fun e => by
  have := (name_size h).1
  rw [e] at this
  exact absurd this (by decide)
theorem below_pair {W w : World} {b : Nat} (u0 u1 : Value) (h : Below W.heap.size W w) (hb : W.heap.size ≤ b) : Below W.heap.size W ((w.setCell ⟨b, 0, none⟩ u0).setCell ⟨b, 1, none⟩ u1) := (h.setCell hb u0).setCell hb u1
theorem name_full {k : ByteArray} (h : nameB k = true) : k.toList.isEmpty = false := by
  cases hc : k.toList.isEmpty with
  | false => rfl
  | true =>
    have h1 := List.isEmpty_iff.1 hc
    have := (name_size h).1
    rw [Go.Lib.toList_data] at h1
    have e : k.size = 0 := by
      have : k.data.toList.length = 0 := by rw [h1]; rfl
      simpa using this
    omega
theorem nil_eq : ((⟨#[]⟩ : ByteArray).toList == (⟨#[]⟩ : ByteArray).toList) = true := bytes_yes rfl

set_option maxRecDepth 100000 in
set_option maxHeartbeats 4000000 in
theorem refReceive_any {v : Value} {l : List Rw} {w : World} (h : SRow w v l) (hl : Brief l) (k : ByteArray) (hk : k.size ≤ 1000000) (n : Int) : Calls Try.prog 10 #[v, .string k, .int .i64 n] w (TE (recvO l k n) (recvE l k n) w) := by
  have hw := recvE_ways l k n
  have hr := fun W (hb : Below w.heap.size w W) => refRightS_any (h.below hb) hl
  have hu := fun W => refUnits_any n W
  have hn := fun W => refName_any k hk W
  have hg := fun W (hb : Below w.heap.size w W) => refGet_any (h.below hb) k
  have HS := Lib.hid (fun (x : Rw) (hx : x.s.size ≤ 1000000) (hp : l.Pairwise (fun a b => ltR a b = true)) W (hb : Below w.heap.size w W) => refSet_any (h.below hb) hl x hx hp)
  have hlen := hl.1
  obtain ⟨a, cap, rfl⟩ := h.slice
  unfold recvO
  have hx0 := Box.made w [.slice none 0 0, .int .i64 0] 32
  have hb0 := al w (.cells #[.slice none 0 0, .int .i64 0] 32)
  obtain ⟨W0, hW0⟩ : ∃ W, w.alloc (.cells #[.slice none 0 0, .int .i64 0] 32) = W := ⟨_, rfl⟩
  rw [hW0] at hx0 hb0
  have HX0 := Lib.hid hx0
  have HB0 := Lib.hid hb0
  clear h hl hx0 hb0
  rcases hw with ⟨e1, e2⟩ | ⟨e1, e2, e3⟩ | ⟨e1, e2, e3, e4⟩ | ⟨e1, e2, ek, e3, e4, e5⟩ | ⟨e1, e2, ek, e3, e4, e5, e6⟩ | ⟨x, e1, e2, ek, e3, ⟨e4, e5⟩ | ⟨e4, e5, e6⟩⟩
  · rw [e2, if_neg (by decide)]
    rw [e1] at hr
    have HR := Lib.hid hr
    clear hr hu hn hg e1 e2
    go_enter Try.func10, Try.ntmps10
    go_wp2_with fail
    clear hW0
    (with_reducible refine (HR.out _ HB0.out).mono ?_)
    rintro e w1 ⟨rfl, hz⟩
    have HB1 := Lib.hid (below_trans HB0.out hz)
    have HX1 := Lib.hid (HX0.out.below hz)
    clear hz
    obtain ⟨q0, q1⟩ := HX1.out.c2
    obtain ⟨r0, r1⟩ := HX1.out.y2
    have hsq := HX1.out.1
    have HE := Lib.hid (below_pair (b := w.heap.size) (.slice none 0 0) (.int .i64 1) HB1.out (Nat.le_refl _))
    go_wp2_with fail
    exact bodyPost_ret (by simp [results, Try.results10, go_sem, q0, q1]) rfl ⟨_, rfl, SRow.nil _, HE.out⟩
  · rw [e3, if_neg (by decide)]
    rw [e1] at hr
    rw [decide_eq_false e2] at hu
    have HR := Lib.hid hr
    have HU := Lib.hid hu
    clear hr hu hn hg e1 e2 e3
    go_enter Try.func10, Try.ntmps10
    go_wp2_with fail
    clear hW0
    (with_reducible refine (HR.out _ HB0.out).mono ?_)
    rintro e w1 ⟨rfl, hz⟩
    have HB1 := Lib.hid (below_trans HB0.out hz)
    have HX1 := Lib.hid (HX0.out.below hz)
    clear hz
    obtain ⟨q0, q1⟩ := HX1.out.c2
    obtain ⟨r0, r1⟩ := HX1.out.y2
    have hsq := HX1.out.1
    have HE := Lib.hid (below_pair (b := w.heap.size) (.slice none 0 0) (.int .i64 1) HB1.out (Nat.le_refl _))
    go_wp2_with (go_at_call 26; (with_reducible refine (HU.out _).mono ?_); rintro e w2 ⟨rfl, rfl⟩)
    exact bodyPost_ret (by simp [results, Try.results10, go_sem, q0, q1]) rfl ⟨_, rfl, SRow.nil _, HE.out⟩
  · rw [e4, if_neg (by decide)]
    rw [e1] at hr
    rw [decide_eq_true e2] at hu
    rw [e3] at hn
    have HR := Lib.hid hr
    have HU := Lib.hid hu
    have HN := Lib.hid hn
    clear hr hu hn hg e1 e2 e3 e4
    go_enter Try.func10, Try.ntmps10
    go_wp2_with fail
    clear hW0
    (with_reducible refine (HR.out _ HB0.out).mono ?_)
    rintro e w1 ⟨rfl, hz⟩
    have HB1 := Lib.hid (below_trans HB0.out hz)
    have HX1 := Lib.hid (HX0.out.below hz)
    clear hz
    go_wp2_with (go_at_call 26; (with_reducible refine (HU.out _).mono ?_); rintro e w2 ⟨rfl, rfl⟩)
    (with_reducible refine (HN.out _).mono ?_)
    rintro e w2 ⟨rfl, hz⟩
    have HB2 := Lib.hid (below_trans HB1.out hz)
    have HX2 := Lib.hid (HX1.out.below hz)
    clear hz
    obtain ⟨q0, q1⟩ := HX2.out.c2
    obtain ⟨r0, r1⟩ := HX2.out.y2
    have hsq := HX2.out.1
    have HE := Lib.hid (below_pair (b := w.heap.size) (.slice none 0 0) (.int .i64 1) HB2.out (Nat.le_refl _))
    go_wp2_with fail
    exact bodyPost_ret (by simp [results, Try.results10, go_sem, q0, q1]) rfl ⟨_, rfl, SRow.nil _, HE.out⟩
  · rw [e5, if_neg (by decide)]
    rw [e1] at hr
    rw [decide_eq_true e2] at hu
    rw [ek] at hn
    rw [e3] at hg
    have HR := Lib.hid hr
    have HU := Lib.hid hu
    have HN := Lib.hid hn
    have HG := Lib.hid hg
    unfold RowE rv at HG
    simp only [Option.getD_none, noR] at HG
    have hnil := nil_eq
    have h8 : ((l.length : Int) == 8) = true := by rw [e4]; rfl
    clear hr hu hn hg e1 e2 e3 e4 e5 ek
    go_enter Try.func10, Try.ntmps10
    go_wp2_with fail
    clear hW0
    (with_reducible refine (HR.out _ HB0.out).mono ?_)
    rintro e w1 ⟨rfl, hz⟩
    have HB1 := Lib.hid (below_trans HB0.out hz)
    have HX1 := Lib.hid (HX0.out.below hz)
    clear hz
    go_wp2_with (go_at_call 26; (with_reducible refine (HU.out _).mono ?_); rintro e w2 ⟨rfl, rfl⟩)
    (with_reducible refine (HN.out _).mono ?_)
    rintro e w2 ⟨rfl, hz⟩
    have HB2 := Lib.hid (below_trans HB1.out hz)
    have HX2 := Lib.hid (HX1.out.below hz)
    clear hz
    go_wp2_with fail
    (with_reducible refine (HG.out _ HB2.out).mono ?_)
    rintro e w3 ⟨rfl, hz⟩
    have HB3 := Lib.hid (below_trans HB2.out hz)
    have HX3 := Lib.hid (HX2.out.below hz)
    clear hz
    have HB4 := Lib.hid (below_trans HB3.out (al w3 (.cells #[.string ⟨#[]⟩, .int .i64 0, .int .i64 0, .int .i64 0, .int .i64 0, .int .i64 0] 25)))
    have HX4 := Lib.hid (HX3.out.below (al w3 (.cells #[.string ⟨#[]⟩, .int .i64 0, .int .i64 0, .int .i64 0, .int .i64 0, .int .i64 0] 25)))
    obtain ⟨q0, q1⟩ := HX4.out.c2
    obtain ⟨r0, r1⟩ := HX4.out.y2
    have hsq := HX4.out.1
    have HE := Lib.hid (below_pair (b := w.heap.size) (.slice none 0 0) (.int .i64 7) HB4.out (Nat.le_refl _))
    go_wp2_with fail
    exact bodyPost_ret (by simp [results, Try.results10, go_sem, q0, q1]) rfl ⟨_, rfl, SRow.nil _, HE.out⟩
  · rw [e5, if_pos rfl, e6]
    rw [e1] at hr
    rw [decide_eq_true e2] at hu
    rw [ek] at hn
    rw [e3] at hg
    have HR := Lib.hid hr
    have HU := Lib.hid hu
    have HN := Lib.hid hn
    have HG := Lib.hid hg
    unfold RowE rv at HG
    simp only [Option.getD_none, noR] at HG
    have hnil := nil_eq
    have h8 : ((l.length : Int) == 8) = false := by simpa using (by omega : ¬ ((l.length : Int) = 8))
    have hst := HS.out (inR n (zeroR k)) hk (rightS_t.1 e1).2.2.1
    have hz0 : rv (inR n (zeroR k)) = .agg #[.string k, .int .i64 n, .int .i64 n, .int .i64 0, .int .i64 0, .int .i64 0] := by unfold rv inR zeroR; simp
    rw [hz0] at hst
    have HST := Lib.hid hst
    obtain ⟨n1, n2⟩ := e2
    clear hr hu hn hg e1 e3 e4 e5 e6 ek hst hz0
    go_enter Try.func10, Try.ntmps10
    go_wp2_with fail
    clear hW0
    (with_reducible refine (HR.out _ HB0.out).mono ?_)
    rintro e w1 ⟨rfl, hz⟩
    have HB1 := Lib.hid (below_trans HB0.out hz)
    have HX1 := Lib.hid (HX0.out.below hz)
    clear hz
    go_wp2_with (go_at_call 26; (with_reducible refine (HU.out _).mono ?_); rintro e w2 ⟨rfl, rfl⟩)
    (with_reducible refine (HN.out _).mono ?_)
    rintro e w2 ⟨rfl, hz⟩
    have HB2 := Lib.hid (below_trans HB1.out hz)
    have HX2 := Lib.hid (HX1.out.below hz)
    clear hz
    go_wp2_with fail
    (with_reducible refine (HG.out _ HB2.out).mono ?_)
    rintro e w3 ⟨rfl, hz⟩
    have HB3 := Lib.hid (below_trans HB2.out hz)
    have HX3 := Lib.hid (HX2.out.below hz)
    clear hz
    have HB4 := Lib.hid (below_trans HB3.out (al w3 (.cells #[.string k, .int .i64 n, .int .i64 n, .int .i64 0, .int .i64 0, .int .i64 0] 25)))
    have HX4 := Lib.hid (HX3.out.below (al w3 (.cells #[.string k, .int .i64 n, .int .i64 n, .int .i64 0, .int .i64 0, .int .i64 0] 25)))
    have HSS := Lib.hid (HST.out _ HB4.out)
    go_wp2_with fail
    (with_reducible refine HSS.out.mono ?_)
    rintro e w5 ⟨v5, rfl, ho, hz⟩
    have HX5 := Lib.hid (HX4.out.below hz)
    obtain ⟨va, vn, vc, rfl⟩ : ∃ a n c, v5 = .slice a n c := (by obtain ⟨a', c', e⟩ := ho.row.slice; exact ⟨a', _, c', e⟩)
    have HE := Lib.hid (t_end (b := w.heap.size) (.int .i64 0) ho.row (below_trans HB4.out hz) (Nat.le_refl _) (fun g hg => by have := (World.ownsRow.lt ho g hg).1; have := HB3.out.size; simp only [World.size_alloc] at *; omega))
    obtain ⟨q0, q1⟩ := HX5.out.c2
    obtain ⟨r0, r1⟩ := HX5.out.y2
    have hsq := HX5.out.1
    clear ho hz
    go_wp2_with fail
    exact bodyPost_ret (by simp [results, Try.results10, go_sem, q0, q1]) rfl ⟨_, rfl, HE.out.1, HE.out.2⟩
  · rw [e5, if_neg (by decide)]
    rw [e1] at hr
    rw [decide_eq_true e2] at hu
    rw [ek] at hn
    rw [e3] at hg
    have HR := Lib.hid hr
    have HU := Lib.hid hu
    have HN := Lib.hid hn
    have HG := Lib.hid hg
    unfold RowE rv at HG
    simp only [Option.getD_some] at HG
    obtain ⟨rfl, hxm⟩ := getL_name e3
    have hne := name_ne ek
    have hne2 := name_full ek
    have hadd := (rightS_t.1 e1).2.2.2 x hxm
    obtain ⟨x1, x2⟩ := hadd.1
    obtain ⟨y1, y2⟩ := hadd.2.1
    obtain ⟨n1, n2⟩ := e2
    clear hr hu hn hg e1 e3 e5 ek hadd hxm
    go_enter Try.func10, Try.ntmps10
    go_wp2_with fail
    clear hW0
    (with_reducible refine (HR.out _ HB0.out).mono ?_)
    rintro e w1 ⟨rfl, hz⟩
    have HB1 := Lib.hid (below_trans HB0.out hz)
    have HX1 := Lib.hid (HX0.out.below hz)
    clear hz
    go_wp2_with (go_at_call 26; (with_reducible refine (HU.out _).mono ?_); rintro e w2 ⟨rfl, rfl⟩)
    (with_reducible refine (HN.out _).mono ?_)
    rintro e w2 ⟨rfl, hz⟩
    have HB2 := Lib.hid (below_trans HB1.out hz)
    have HX2 := Lib.hid (HX1.out.below hz)
    clear hz
    go_wp2_with fail
    (with_reducible refine (HG.out _ HB2.out).mono ?_)
    rintro e w3 ⟨rfl, hz⟩
    have HB3 := Lib.hid (below_trans HB2.out hz)
    have HX3 := Lib.hid (HX2.out.below hz)
    clear hz
    have HB4 := Lib.hid (below_trans HB3.out (al w3 (.cells #[.string x.s, .int .i64 x.n, .int .i64 x.f, .int .i64 x.h, .int .i64 x.p, .int .i64 x.t] 25)))
    have HX4 := Lib.hid (HX3.out.below (al w3 (.cells #[.string x.s, .int .i64 x.n, .int .i64 x.f, .int .i64 x.h, .int .i64 x.p, .int .i64 x.t] 25)))
    obtain ⟨q0, q1⟩ := HX4.out.c2
    obtain ⟨r0, r1⟩ := HX4.out.y2
    have hsq := HX4.out.1
    have HE := Lib.hid (below_pair (b := w.heap.size) (.slice none 0 0) (.int .i64 2) HB4.out (Nat.le_refl _))
    go_wp2_with fail
    exact bodyPost_ret (by simp [results, Try.results10, go_sem, q0, q1]) rfl ⟨_, rfl, SRow.nil _, HE.out⟩
  · rw [e5, if_pos rfl, e6]
    rw [e1] at hr
    rw [decide_eq_true e2] at hu
    rw [ek] at hn
    rw [e3] at hg
    have HR := Lib.hid hr
    have HU := Lib.hid hu
    have HN := Lib.hid hn
    have HG := Lib.hid hg
    unfold RowE rv at HG
    simp only [Option.getD_some] at HG
    obtain ⟨rfl, hxm⟩ := getL_name e3
    have hne := name_ne ek
    have hne2 := name_full ek
    have hadd := (rightS_t.1 e1).2.2.2 x hxm
    obtain ⟨x1, x2⟩ := hadd.1
    obtain ⟨y1, y2⟩ := hadd.2.1
    have hst := HS.out (inR n x) hk (rightS_t.1 e1).2.2.1
    have hz0 : rv (inR n x) = .agg #[.string x.s, .int .i64 (x.n + n), .int .i64 (x.f + n), .int .i64 x.h, .int .i64 x.p, .int .i64 x.t] := rfl
    rw [hz0] at hst
    have HST := Lib.hid hst
    obtain ⟨n1, n2⟩ := e2
    clear hr hu hn hg e1 e3 e5 e6 ek hst hz0 hadd hxm
    go_enter Try.func10, Try.ntmps10
    go_wp2_with fail
    clear hW0
    (with_reducible refine (HR.out _ HB0.out).mono ?_)
    rintro e w1 ⟨rfl, hz⟩
    have HB1 := Lib.hid (below_trans HB0.out hz)
    have HX1 := Lib.hid (HX0.out.below hz)
    clear hz
    go_wp2_with (go_at_call 26; (with_reducible refine (HU.out _).mono ?_); rintro e w2 ⟨rfl, rfl⟩)
    (with_reducible refine (HN.out _).mono ?_)
    rintro e w2 ⟨rfl, hz⟩
    have HB2 := Lib.hid (below_trans HB1.out hz)
    have HX2 := Lib.hid (HX1.out.below hz)
    clear hz
    go_wp2_with fail
    (with_reducible refine (HG.out _ HB2.out).mono ?_)
    rintro e w3 ⟨rfl, hz⟩
    have HB3 := Lib.hid (below_trans HB2.out hz)
    have HX3 := Lib.hid (HX2.out.below hz)
    clear hz
    have HB4 := Lib.hid (below_trans HB3.out (al w3 (.cells #[.string x.s, .int .i64 (x.n + n), .int .i64 (x.f + n), .int .i64 x.h, .int .i64 x.p, .int .i64 x.t] 25)))
    have HX4 := Lib.hid (HX3.out.below (al w3 (.cells #[.string x.s, .int .i64 (x.n + n), .int .i64 (x.f + n), .int .i64 x.h, .int .i64 x.p, .int .i64 x.t] 25)))
    have HSS := Lib.hid (HST.out _ HB4.out)
    go_wp2_with fail
    (with_reducible refine HSS.out.mono ?_)
    rintro e w5 ⟨v5, rfl, ho, hz⟩
    have HX5 := Lib.hid (HX4.out.below hz)
    obtain ⟨va, vn, vc, rfl⟩ : ∃ a n c, v5 = .slice a n c := (by obtain ⟨a', c', e⟩ := ho.row.slice; exact ⟨a', _, c', e⟩)
    have HE := Lib.hid (t_end (b := w.heap.size) (.int .i64 0) ho.row (below_trans HB4.out hz) (Nat.le_refl _) (fun g hg => by have := (World.ownsRow.lt ho g hg).1; have := HB3.out.size; simp only [World.size_alloc] at *; omega))
    obtain ⟨q0, q1⟩ := HX5.out.c2
    obtain ⟨r0, r1⟩ := HX5.out.y2
    have hsq := HX5.out.1
    clear ho hz
    go_wp2_with fail
    exact bodyPost_ret (by simp [results, Try.results10, go_sem, q0, q1]) rfl ⟨_, rfl, HE.out.1, HE.out.2⟩
end Go.Proofs.Ytihfdeihpdkjcaa.Goods.Stk
