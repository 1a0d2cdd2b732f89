/-
  Contracts of package ask: answers (a map of two), Begin, Answer, Lapse.
-/
import Derived.Test.YtbdgcfcipjehmaaABase
import Derived.Maps.OwnSet
import Derived.Maps.OwnOps
namespace Go.Proofs.Ytbdgcfcipjehmaa.Ask
open Go.ChangeShapes Go.WideShapes Go.ChangeAt Go.RowKit
open Go.Maps (Keyed)

theorem keyLaw : Keyed Try.prog 4 := Maps.bool_keyed Try.underlying4
theorem zeroInt (w : World) : (zeroValue 3).run Try.prog w = .ok (.int .i64 0) w := by kernel_rfl
def nm (a : Int) : DataW Unit := .lit (.int .i64 a)
theorem key_of (y : Bool) : keyOf Try.prog 4 (.bool y) = some (.bool y) := Maps.keyOf_bool_mk Try.underlying4 y
theorem of_grown {W W' : World} {B : Nat} {w : World} (hw : Below w.heap.size w W) (hB : w.heap.size ≤ B) (h : W.grownBy W' (some B)) : Below w.heap.size w W' :=
  hw.grown h hw.size (fun k hk => by cases hk; exact hB)
/-- A store into a map of the call's own. -/
theorem put_of {W : World} {B n : Nat} {D : DataW Unit} (h : W.ownsMap Try.prog 4 (plainElem Try.prog 3) B n D) (hn : n < 1000) (y : Bool) (c : Int) (hc : -9223372036854775808 ≤ c ∧ c ≤ 9223372036854775807) :
    ∃ W', (Instr.mapUpdate 39 (.map (some B)) (.bool y) (.int .i64 c)).run Try.prog W = .ok () W' ∧ W'.ownsMap Try.prog 4 (plainElem Try.prog 3) B (n + 1) (D.put (.bool y) (nm c)) ∧ W.grownBy W' (some B) :=
  h.update keyLaw Try.underlying39 (by unfold maxLen; omega) (key_of y) (plainElem_int Try.underlying3 (WalkArith.wf_i64 hc))
/-- What an answer makes of asking, looked up in the map. -/
theorem look_of {W : World} {B n : Nat} (h : W.ownsMap Try.prog 4 (plainElem Try.prog 3) B n (((DataW.map [] : DataW Unit).put (.bool true) (nm 2)).put (.bool false) (nm 3))) (y : Bool) :
    (Instr.lookup 39 (.map (some B)) (.bool y) false).run Try.prog W = .ok (.int .i64 (if y then 2 else 3)) W := by
  obtain ⟨c, hrun, hat, _⟩ := h.lookup_int keyLaw Try.underlying39 Try.underlying3 (zeroInt W) (key_of y)
  have e : nm (if y then 2 else 3) = nm c := by
    rw [show nm c = DataW.lit (.int .i64 c) from rfl, ← hat]
    cases y <;> rfl
  have e2 : (if y then (2 : Int) else 3) = c := by unfold nm at e; injection e with e; injection e
  rw [e2]
  exact hrun
/-- The map is returned, in a block of its own. -/
def MapE (w : World) (e : Ending) (w' : World) : Prop := ∃ B, e = .returned (.map (some B)) ∧ Below w.heap.size w w' ∧ ∀ y : Bool, (Instr.lookup 39 (.map (some B)) (.bool y) false).run Try.prog w' = .ok (.int .i64 (if y then 2 else 3)) w'

set_option maxRecDepth 100000 in
set_option maxHeartbeats 1000000 in
theorem answers_any (w : World) : Calls Try.prog 14 #[] w (MapE w) := by
  obtain ⟨w1, r1, o1, g1⟩ := put_of (World.ownsMap_made w Try.prog 4 (plainElem Try.prog 3)) (by omega) true 2 (by omega)
  obtain ⟨w2, r2, o2, g2⟩ := put_of o1 (by omega) false 3 (by omega)
  have HE : Hid (MapE w (.returned (.map (some w.heap.size))) w2) := Lib.hid ⟨w.heap.size, rfl, of_grown (of_grown (al w _) (Nat.le_refl _) g1) (Nat.le_refl _) g2, fun y => look_of o2 y⟩
  have hmm := @run_makeMap Try.prog
  clear o1 g1 o2 g2
  go_enter Try.func14, Try.ntmps14
  go_wp2
  go_ret
  exact HE.out

set_option maxRecDepth 100000 in
set_option maxHeartbeats 1000000 in
theorem Begin_any (p : As) (t : Int) (w : World) : Calls Try.prog 5 #[av p, .int .i64 t] w (AskE (begO p t) (begE p t) w) := by
  obtain ⟨hx1, hx2⟩ := two_boxes w [.int .i64 p.s, .int .i64 p.u] [.int .i64 0, .int .i64 0] 23 23
  have hbb := two_al w (.cells #[.int .i64 p.s, .int .i64 p.u] 23) (.cells #[.int .i64 0, .int .i64 0] 23)
  obtain ⟨W0, hW0⟩ : ∃ W, (w.alloc (.cells #[.int .i64 p.s, .int .i64 p.u] 23)).alloc (.cells #[.int .i64 0, .int .i64 0] 23) = W := ⟨_, rfl⟩
  have HX1 : Hid (Box w.heap.size [.int .i64 p.s, .int .i64 p.u] W0) := Lib.hid (hW0 ▸ hx1)
  have HX2 : Hid (Box (w.heap.size + 1) [.int .i64 0, .int .i64 0] W0) := Lib.hid (hW0 ▸ hx2)
  have HB0 : Hid (Below w.heap.size w W0) := Lib.hid (hW0 ▸ hbb)
  clear hx1 hx2 hbb
  have hR := Right_any p
  have hT := tick_any t
  have hways := beg_ways p t
  obtain ⟨r, hr⟩ : ∃ r, rightB p = r := ⟨_, rfl⟩
  obtain ⟨b, hb⟩ : ∃ b, decide (TimeP t) = b := ⟨_, rfl⟩
  have hbt : TimeP t ↔ b = true := by rw [← hb]; exact decide_eq_true_iff.symm
  rw [hr] at hR hways
  rw [hb] at hT
  rw [hbt] at hways
  generalize begO p t = x at *
  generalize begE p t = z at *
  unfold av at *
  generalize p.s = s at *
  generalize p.u = u at *
  have HR := Lib.hid hR
  have HT := Lib.hid hT
  clear hR hT hb hbt hr
  cases r with
  | false =>
    obtain ⟨rfl, rfl⟩ : z = 1 ∧ x = noA := by
      rcases hways with ⟨_, h⟩ | ⟨h, _⟩ | ⟨h, _⟩
      · exact h
      · cases h
      · cases h
    clear hways HT
    go_enter Try.func5, Try.ntmps5
    go_upto_region 1 with (fail)
    clear hW0
    obtain ⟨k0, k1⟩ := HX1.out.c2
    have hs1 := HX1.out.1
    go_wp2_with fail
    (with_reducible refine (HR.out _).mono ?_)
    rintro e w1 ⟨rfl, hz⟩
    obtain ⟨y0, y1⟩ := (HX2.out.below hz).c2
    obtain ⟨z0, z1⟩ := (HX2.out.below hz).z2
    have hsz := (HX2.out.below hz).1
    have HE := Lib.hid (below_two (b := w.heap.size + 1) (.int .i64 0) (.int .i64 0) (below_trans HB0.out hz) (by omega))
    clear hz k0 k1 hs1
    go_wp2_with fail
    exact bodyPost_ret (by simp [results, Try.results5, go_sem, av, noA, y0, y1]) rfl ⟨rfl, HE.out⟩
  | true =>
    cases b with
    | false =>
      obtain ⟨rfl, rfl⟩ : z = 1 ∧ x = noA := by
        rcases hways with ⟨_, h⟩ | ⟨_, h, _⟩ | ⟨_, h, _⟩
        · exact h
        · cases h
        · cases h
      clear hways
      go_enter Try.func5, Try.ntmps5
      go_upto_region 1 with (fail)
      clear hW0
      obtain ⟨k0, k1⟩ := HX1.out.c2
      have hs1 := HX1.out.1
      go_wp2_with fail
      (with_reducible refine (HR.out _).mono ?_)
      rintro e w1 ⟨rfl, hz⟩
      obtain ⟨y0, y1⟩ := (HX2.out.below hz).c2
      obtain ⟨z0, z1⟩ := (HX2.out.below hz).z2
      have hsz := (HX2.out.below hz).1
      have HE := Lib.hid (below_two (b := w.heap.size + 1) (.int .i64 0) (.int .i64 0) (below_trans HB0.out hz) (by omega))
      clear hz k0 k1 hs1
      go_wp2_with (go_at_call 12; (with_reducible refine (HT.out _).mono ?_); rintro e w' ⟨rfl, rfl⟩)
      exact bodyPost_ret (by simp [results, Try.results5, go_sem, av, noA, y0, y1]) rfl ⟨rfl, HE.out⟩
    | true =>
      by_cases hs : s = 0
      · obtain ⟨rfl, rfl⟩ : z = 0 ∧ x = ⟨1, t⟩ := by
          rcases hways with ⟨h, _⟩ | ⟨_, _, h, _⟩ | ⟨_, _, _, h⟩
          · exact absurd ⟨rfl, rfl⟩ h
          · exact absurd hs h
          · exact h
        subst hs
        clear hways
        go_enter Try.func5, Try.ntmps5
        go_upto_region 1 with (fail)
        clear hW0
        obtain ⟨k0, k1⟩ := HX1.out.c2
        have hs1 := HX1.out.1
        go_wp2_with fail
        (with_reducible refine (HR.out _).mono ?_)
        rintro e w1 ⟨rfl, hz⟩
        obtain ⟨k0, k1⟩ := (HX1.out.below hz).c2
        have hs1 := (HX1.out.below hz).1
        obtain ⟨y0, y1⟩ := (HX2.out.below hz).c2
        obtain ⟨z0, z1⟩ := (HX2.out.below hz).z2
        have hsz := (HX2.out.below hz).1
        have HE := Lib.hid (below_two (b := w.heap.size + 1) (.int .i64 1) (.int .i64 t) (below_trans HB0.out hz) (by omega))
        clear hz
        go_wp2_with (go_at_call 12; (with_reducible refine (HT.out _).mono ?_); rintro e w' ⟨rfl, rfl⟩)
        exact bodyPost_ret (by simp [results, Try.results5, go_sem, av, y0, y1]) rfl ⟨rfl, HE.out⟩
      · obtain ⟨rfl, rfl⟩ : z = 10 ∧ x = noA := by
          rcases hways with ⟨h, _⟩ | ⟨_, _, _, h⟩ | ⟨_, _, h, _⟩
          · exact absurd ⟨rfl, rfl⟩ h
          · exact h
          · exact absurd h hs
        have hs' : (s != 0) = true := by simpa using hs
        clear hways hs
        go_enter Try.func5, Try.ntmps5
        go_upto_region 1 with (fail)
        clear hW0
        obtain ⟨k0, k1⟩ := HX1.out.c2
        have hs1 := HX1.out.1
        go_wp2_with fail
        (with_reducible refine (HR.out _).mono ?_)
        rintro e w1 ⟨rfl, hz⟩
        obtain ⟨k0, k1⟩ := (HX1.out.below hz).c2
        have hs1 := (HX1.out.below hz).1
        obtain ⟨y0, y1⟩ := (HX2.out.below hz).c2
        obtain ⟨z0, z1⟩ := (HX2.out.below hz).z2
        have hsz := (HX2.out.below hz).1
        have HE := Lib.hid (below_two (b := w.heap.size + 1) (.int .i64 0) (.int .i64 0) (below_trans HB0.out hz) (by omega))
        clear hz
        go_wp2_with (go_at_call 12; (with_reducible refine (HT.out _).mono ?_); rintro e w' ⟨rfl, rfl⟩)
        exact bodyPost_ret (by simp [results, Try.results5, go_sem, av, noA, y0, y1]) rfl ⟨rfl, HE.out⟩
end Go.Proofs.Ytbdgcfcipjehmaa.Ask
