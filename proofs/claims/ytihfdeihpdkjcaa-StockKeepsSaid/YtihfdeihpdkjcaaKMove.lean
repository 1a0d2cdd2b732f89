/-
  Contracts of package stock: move and its four closures (Hold, Release, Ship, Lose), Get.
-/
import Derived.Test.YtihfdeihpdkjcaaKRight
namespace Go.Proofs.Ytihfdeihpdkjcaa.Goods.Stk
open Go.ChangeShapes Go.WideShapes Go.ChangeAt Go.RowKit Go.Shelf

/-- Rows and an error are returned; nothing that lay has turned. -/
def RowsE (l : List Rw) (z : Int) (w : World) (e : Ending) (w' : World) : Prop := ∃ v, e = .returned (.tuple #[v, .int .i64 z]) ∧ SRow w' v l ∧ Below w.heap.size w w'
/-- Two numbers of a row are picked. -/
def Picks (N c d : Nat) : Prop := ∀ g o w, Calls Try.prog N #[.pointer (some ⟨g, o, none⟩)] w fun e w' => e = .returned (.tuple #[.pointer (some ⟨g, o + c, none⟩), .pointer (some ⟨g, o + d, none⟩)]) ∧ Below w.heap.size w w'
set_option maxRecDepth 100000 in
theorem pick_hold : Picks 37 2 3 := fun g o w => by
  go_enter Try.func37, Try.ntmps37
  go_upto_region 1 with (fail)
  go_region
  go_wp2
  go_ret2
  exact ⟨rfl, dr w⟩
set_option maxRecDepth 100000 in
theorem pick_release : Picks 38 3 2 := fun g o w => by
  go_enter Try.func38, Try.ntmps38
  go_upto_region 1 with (fail)
  go_region
  go_wp2
  go_ret2
  exact ⟨rfl, dr w⟩
set_option maxRecDepth 100000 in
theorem pick_ship : Picks 39 3 4 := fun g o w => by
  go_enter Try.func39, Try.ntmps39
  go_upto_region 1 with (fail)
  go_region
  go_wp2
  go_ret2
  exact ⟨rfl, dr w⟩
set_option maxRecDepth 100000 in
theorem pick_lose : Picks 47 2 5 := fun g o w => by
  go_enter Try.func47, Try.ntmps47
  go_upto_region 1 with (fail)
  go_region
  go_wp2
  go_ret2
  exact ⟨rfl, dr w⟩

theorem fld_in {x : Rw} (h : addP x) (c : Nat) : inP (fld c x) := by
  obtain ⟨a, b, c, d, e, _⟩ := h
  unfold fld
  split <;> assumption
theorem fld_put {x : Rw} (h : ∀ c, inP (fld c x)) {v : Int} (hv : inP v) (c d : Nat) : inP (fld d (put c v x)) := by
  have h1 := h 1
  have h2 := h 2
  have h3 := h 3
  have h4 := h 4
  have h5 := h 5
  unfold fld put at *
  split <;> split <;> assumption
theorem OwnR.at {B : Nat} {v : Value} {l : List Rw} {w : World} (h : OwnR B v l w) {i : Nat} (hi : i < l.length) :
    ∃ g cap, v = .slice (some ⟨g, 0, none⟩) l.length cap ∧ l.length ≤ cap ∧ cap ≤ 9223372036854775807 ∧ B ≤ g ∧ g < w.heap.size ∧ (∀ c, 1 ≤ c → c ≤ 5 → w.cell? ⟨g, i * 6 + c, none⟩ = some (.int .i64 (fld c l[i]))) ∧ ∀ j, w.frozen? ⟨g, j, none⟩ = false := by
  have hw := h
  obtain ⟨_, ⟨rfl, h2⟩ | ⟨g, cap, cur, rfl, hg, hh, hn, hm, _⟩⟩ := h
  · omega
  · refine ⟨g, cap, rfl, hn, by unfold maxLen at hm; omega, hg, (Array.getElem?_eq_some_iff.1 hh).1, fun c h1 h2 => ?_, fun j => by simp [World.frozen?, hh]⟩
    obtain ⟨a0, a1, a2, a3, a4, a5⟩ := rcells_at l i hi
    rcases (by omega : c = 1 ∨ c = 2 ∨ c = 3 ∨ c = 4 ∨ c = 5) with rfl | rfl | rfl | rfl | rfl
    · have := World.ownsRow.cells hw (g := g) rfl _ _ a1; rw [addr_add, Nat.zero_add] at this; exact this
    · have := World.ownsRow.cells hw (g := g) rfl _ _ a2; rw [addr_add, Nat.zero_add] at this; exact this
    · have := World.ownsRow.cells hw (g := g) rfl _ _ a3; rw [addr_add, Nat.zero_add] at this; exact this
    · have := World.ownsRow.cells hw (g := g) rfl _ _ a4; rw [addr_add, Nat.zero_add] at this; exact this
    · have := World.ownsRow.cells hw (g := g) rfl _ _ a5; rw [addr_add, Nat.zero_add] at this; exact this
theorem OwnR.has {B g n cap : Nat} {l : List Rw} {w : World} (h : OwnR B (.slice (some ⟨g, 0, none⟩) n cap) l w) {i : Nat} (hi : i < l.length) :
    g < w.heap.size ∧ (∀ c, 1 ≤ c → c ≤ 5 → w.cell? ⟨g, i * 6 + c, none⟩ = some (.int .i64 (fld c l[i]))) ∧ ∀ j, w.frozen? ⟨g, j, none⟩ = false := by
  obtain ⟨g', cp', e', _, _, _, h1, h2, h3⟩ := h.at hi
  injection e' with e1 _ _
  injection e1 with e1
  injection e1 with e1 _ _
  subst e1
  exact ⟨h1, h2, h3⟩
/-- One number is stored. -/
theorem OwnR.set {B g n cap : Nat} {l : List Rw} {w : World} (h : OwnR B (.slice (some ⟨g, 0, none⟩) n cap) l w) (hn : n = l.length) {i : Nat} (hi : i < l.length) (c : Nat) (h1 : 1 ≤ c) (h2 : c ≤ 5) (v : Int) :
    OwnR B (.slice (some ⟨g, 0, none⟩) n cap) (l.set i (put c v l[i])) (w.setCell ⟨g, i * 6 + c, none⟩ (.int .i64 v)) := by
  subst hn
  obtain ⟨h3, _⟩ := World.ownsRow.stored h (i * 6 + c) (.int .i64 v)
  unfold OwnR
  rw [rcells_put l i c v hi h1 h2, List.length_set]
  exact h3
theorem src_in (q : Nat) : 1 ≤ src q ∧ src q ≤ 5 := by unfold src; split <;> omega
theorem dst_in (q : Nat) : 1 ≤ dst q ∧ dst q ≤ 5 := by unfold dst; split <;> omega

set_option maxRecDepth 100000 in
set_option maxHeartbeats 4000000 in
theorem move_any (q N : Nat) (hN : Picks N (src q) (dst q)) (he : Enters N) {v : Value} {l : List Rw} {w : World} (h : SRow w v l) (hl : Brief l) (k : ByteArray) (n : Int) : Calls Try.prog 36 #[v, .string k, .int .i64 n, .func (.func N) #[] #[]] w (RowsE (moveO q l k n) (moveE q l k n) w) := by
  have hw := moveE_ways q l k n
  have hr := RightS_any h hl
  have hu := fun W => unitsMayBe_any n W
  have HPL := Lib.hid (fun W (hb : Below w.heap.size w W) hp => place_any (h.below hb) hl.1 hp k)
  have HCL := Lib.hid (fun W (hb : Below w.heap.size w W) => CloneR_any (h.below hb) hl.1)
  unfold Picks at hN
  have HPK := Lib.hid hN
  unfold Enters at he
  obtain ⟨a, cap, rfl⟩ := h.slice
  unfold moveO
  clear h hl hN
  rcases hw with ⟨e1, e2⟩ | ⟨e1, e2, e3⟩ | ⟨e1, e2, e3, e4⟩ | ⟨x, e1, e2, e3, ⟨e4, e5⟩ | ⟨e4, e5, e6⟩⟩
  · rw [e2, if_neg (by decide)]
    rw [e1] at hr
    have HR := Lib.hid hr
    clear hr e1 e2
    go_enter Try.func36, Try.ntmps36
    go_wp2_with fail
    (with_reducible refine HR.out.mono ?_)
    rintro e w1 ⟨rfl, hz⟩
    have HZ := Lib.hid hz
    clear hz
    go_wp2_with fail
    go_ret2
    exact ⟨_, rfl, SRow.nil _, HZ.out⟩
  · rw [e3, if_neg (by decide)]
    rw [e1] at hr
    rw [decide_eq_false e2] at hu
    have HR := Lib.hid hr
    have HU := Lib.hid hu
    clear hr hu e1 e2 e3
    go_enter Try.func36, Try.ntmps36
    go_wp2_with fail
    (with_reducible refine HR.out.mono ?_)
    rintro e w1 ⟨rfl, hz⟩
    have HZ := Lib.hid hz
    clear hz
    go_wp2_with (go_at_call 22; (with_reducible refine (HU.out _).mono ?_); rintro e w2 ⟨rfl, rfl⟩)
    go_ret2
    exact ⟨_, rfl, SRow.nil _, HZ.out⟩
  · rw [e4, if_neg (by decide)]
    rw [e1] at hr
    rw [decide_eq_true e2] at hu
    have HR := Lib.hid hr
    have HU := Lib.hid hu
    have hp := (rightS_t.1 e1).2.2.1
    have HH : Hid (hasR k l = false) := Lib.hid (by unfold hasR; rw [e3]; rfl)
    have HP := Lib.hid (fun W hb => HPL.out W hb hp)
    clear hr hu e1 e2 e3 e4 hp HPL
    go_enter Try.func36, Try.ntmps36
    go_wp2_with fail
    (with_reducible refine HR.out.mono ?_)
    rintro e w1 ⟨rfl, hz⟩
    have HZ := Lib.hid hz
    clear hz
    go_wp2_with (go_at_call 22; (with_reducible refine (HU.out _).mono ?_); rintro e w2 ⟨rfl, rfl⟩)
    (with_reducible refine (HP.out _ HZ.out).mono ?_)
    rintro e w2 ⟨rfl, hz⟩
    have HZ2 := Lib.hid (below_trans HZ.out hz)
    rw [HH.out]
    clear hz
    go_wp2_with fail
    go_ret2
    exact ⟨_, rfl, SRow.nil _, HZ2.out⟩
  · rw [e5, if_neg (by decide)]
    rw [e1] at hr
    rw [decide_eq_true e2] at hu
    have HR := Lib.hid hr
    have HU := Lib.hid hu
    obtain ⟨r1, _, hp, hadd⟩ := rightS_t.1 e1
    obtain ⟨hi, hx, _⟩ := pos_some hp e3
    have HH : Hid (hasR k l = true) := Lib.hid (by unfold hasR; rw [e3]; rfl)
    have HP := Lib.hid (fun W hb => HPL.out W hb hp)
    have HS := Lib.hid (src_in q)
    clear hr hu e1 e2 e3 e5 hp HPL r1 hadd
    unfold PlaceB at HP
    generalize posL k l = i at *
    subst hx
    generalize src q = c at *
    generalize dst q = d at *
    go_enter Try.func36, Try.ntmps36
    go_wp2_with fail
    (with_reducible refine HR.out.mono ?_)
    rintro e w1 ⟨rfl, hz⟩
    have HZ := Lib.hid hz
    clear hz
    go_wp2_with (go_at_call 22; (with_reducible refine (HU.out _).mono ?_); rintro e w2 ⟨rfl, rfl⟩)
    (with_reducible refine (HP.out _ HZ.out).mono ?_)
    rintro e w2 ⟨rfl, hz⟩
    have HZ2 := Lib.hid (below_trans HZ.out hz)
    rw [HH.out]
    clear hz
    go_wp2_with fail
    (with_reducible refine (HCL.out _ HZ2.out).mono ?_)
    rintro e w3 ⟨v3, rfl, ho, hz⟩
    have HZ3 := Lib.hid (below_trans HZ2.out hz)
    obtain ⟨g, cp, rfl, hcp, hcp2, hBg, hgs, hcell, hfr⟩ := ho.at hi
    clear hz ho hfr
    have HCE := Lib.hid hcell
    clear hcell
    go_wp2_with fail
    (with_reducible refine (HPK.out _ _ _).mono ?_)
    rintro e w4 ⟨rfl, hz⟩
    have HZ4 := Lib.hid (below_trans HZ3.out hz)
    have k0 := (hz.cell (p := ⟨g, i * 6 + c, none⟩) hgs).trans (HCE.out c HS.out.1 HS.out.2)
    have hgs4 : g < w4.heap.size := Nat.lt_of_lt_of_le hgs hz.size
    clear hz
    go_wp2_with fail
    go_ret2
    exact ⟨_, rfl, SRow.nil _, HZ4.out⟩
  · rw [e5, if_pos rfl, e6]
    rw [e1] at hr
    rw [decide_eq_true e2] at hu
    have HR := Lib.hid hr
    have HU := Lib.hid hu
    obtain ⟨r1, _, hp, hadd⟩ := rightS_t.1 e1
    obtain ⟨hi, hx, hset⟩ := pos_some hp e3
    have HH : Hid (hasR k l = true) := Lib.hid (by unfold hasR; rw [e3]; rfl)
    have HP := Lib.hid (fun W hb => HPL.out W hb hp)
    have HS := Lib.hid (src_in q)
    have HD := Lib.hid (dst_in q)
    have HSET := Lib.hid (hset (mvR (src q) (dst q) n x) (by rw [mvR_s]; exact (getL_name e3).1))
    rw [← HSET.out]
    have hfl := fld_in (hadd x (getL_name e3).2)
    obtain ⟨b1, b2⟩ := hfl (src q)
    obtain ⟨n1, n2⟩ := e2
    obtain ⟨d1, d2⟩ := fld_put hfl (v := fld (src q) x - n) ⟨by omega, by omega⟩ (src q) (dst q)
    clear hr hu e1 e3 e5 e6 hp HPL r1 hadd hset HSET hfl
    unfold PlaceB at HP
    generalize posL k l = i at *
    subst hx
    generalize src q = c at *
    generalize dst q = d at *
    have HM : Hid (put d (fld d (put c (fld c l[i] - n) l[i]) + n) (put c (fld c l[i] - n) l[i]) = mvR c d n l[i]) := Lib.hid rfl
    obtain ⟨m, hm⟩ : ∃ m, fld c l[i] = m := ⟨_, rfl⟩
    rw [hm] at HM b1 b2 d1 d2 e4
    obtain ⟨m2, hm2⟩ : ∃ m2, fld d (put c (m - n) l[i]) = m2 := ⟨_, rfl⟩
    rw [hm2] at HM d1 d2
    have HM1 := Lib.hid hm
    have HM2 := Lib.hid hm2
    clear hm hm2
    go_enter Try.func36, Try.ntmps36
    go_wp2_with fail
    (with_reducible refine HR.out.mono ?_)
    rintro e w1 ⟨rfl, hz⟩
    have HZ := Lib.hid hz
    clear hz
    go_wp2_with (go_at_call 22; (with_reducible refine (HU.out _).mono ?_); rintro e w2 ⟨rfl, rfl⟩)
    (with_reducible refine (HP.out _ HZ.out).mono ?_)
    rintro e w2 ⟨rfl, hz⟩
    have HZ2 := Lib.hid (below_trans HZ.out hz)
    rw [HH.out]
    clear hz
    go_wp2_with fail
    (with_reducible refine (HCL.out _ HZ2.out).mono ?_)
    rintro e w3 ⟨v3, rfl, ho, hz⟩
    have HZ3 := Lib.hid (below_trans HZ2.out hz)
    obtain ⟨g, cp, rfl, hcp, hcp2, hBg, hgs, hcell, hfr⟩ := ho.at hi
    have HO := Lib.hid ho
    have HGB : Hid (w.heap.size ≤ g) := Lib.hid (Nat.le_trans HZ2.out.size hBg)
    clear hz ho hfr hcell hBg
    go_wp2_with fail
    (with_reducible refine (HPK.out _ _ _).mono ?_)
    rintro e w4 ⟨rfl, hz⟩
    have HZ4 := Lib.hid (below_trans HZ3.out hz)
    have HO4 := Lib.hid (HO.out.below hz)
    obtain ⟨hgs4, hcell, hfr⟩ := HO4.out.has hi
    have k0 := hcell c HS.out.1 HS.out.2
    rw [HM1.out] at k0
    have f0 := hfr (i * 6 + c)
    have f1 := hfr (i * 6 + d)
    have HO5 := Lib.hid (HO4.out.set rfl hi c HS.out.1 HS.out.2 (m - n))
    have hi5 : i < (l.set i (put c (m - n) l[i])).length := by rw [List.length_set]; exact hi
    obtain ⟨hgs5, hcell5, hfr5⟩ := HO5.out.has hi5
    have k1 := hcell5 d HD.out.1 HD.out.2
    rw [List.getElem_set_self, HM2.out] at k1
    have f2 := hfr5 (i * 6 + d)
    have HO6 := Lib.hid (HO5.out.set (by rw [List.length_set]) hi5 d HD.out.1 HD.out.2 (m2 + n))
    rw [List.getElem_set_self, List.set_set, HM.out] at HO6
    clear hz hcell hfr hcell5 hfr5
    go_wp2_with fail
    go_ret2
    exact ⟨_, rfl, HO6.out.row, (HZ4.out.setCell HGB.out _).setCell HGB.out _⟩
end Go.Proofs.Ytihfdeihpdkjcaa.Goods.Stk
