/-
  The law's own few and alive; timers among a law's arguments, opened.
-/
import Derived.Test.YtncaohdnbibkfaaTRef3
import Derived.Deep.Slices
namespace Go.Proofs.Ytncaohdnbibkfaa.Timer
open Go.ChangeShapes Go.WideShapes Go.ChangeAt Go.RowKit Go.Shelf Go.Lib Go.Deep
open Go.Proofs.Ytncaohdnbibkfaa.Queue

/-- A slice of timers that came in. -/
def ArgT (w : World) (v : Value) : Prop := ∃ l, QRow w v l
theorem add_off (b off j : Nat) : (⟨b, off, none⟩ : Addr).add j = ⟨b, off + j, none⟩ := addr_add b off j
/-- Some are returned. -/
def FewE (l : List Wt) (w : World) (e : Ending) (w' : World) : Prop := ∃ v, e = .returned v ∧ QRow w' v l ∧ Below w.heap.size w w'
set_option maxRecDepth 100000 in
theorem few_any {v : Value} {l : List Wt} {w : World} (h : QRow w v l) : Calls Try.prog 6 #[v] w (FewE (l.take 98) w) := by
  obtain ⟨a, cap, rfl⟩ := h.slice
  obtain ⟨_, hlc, hcap⟩ := QRow.cap h
  by_cases hc : 98 < l.length
  · have HT := Lib.hid (QRow.take h (n := 98) (by omega))
    clear h
    go_enter Try.func6, Try.ntmps6
    go_wp2
    go_ret
    exact ⟨_, rfl, HT.out, Below.refl _ _⟩
  · have HT := Lib.hid (QRow.take h (n := l.length) (Nat.le_refl _))
    rw [List.take_length] at HT
    have HE : Hid (l.take 98 = l) := Lib.hid (List.take_of_length_le (by omega))
    rw [HE.out]
    clear h
    go_enter Try.func6, Try.ntmps6
    go_wp2
    go_ret
    exact ⟨_, rfl, HT.out, Below.refl _ _⟩

def one : Wt := ⟨5, 2, 1⟩
theorem right_one : rightB [one] = true := rightB_t.2 ⟨by simp, by intro x hx; rw [List.mem_singleton.1 hx]; decide, List.pairwise_singleton _ _, List.pairwise_singleton _ _⟩
theorem right_nil : rightB [] = true := rightB_t.2 ⟨by simp, by simp, List.Pairwise.nil, List.Pairwise.nil⟩
theorem set_one : setE one [] = 0 ∧ setO one [] = [one] := by
  have e : setE one [] = 0 := by
    unfold setE
    rw [right_nil, show mayT one = true by decide]
    rfl
  exact ⟨e, by unfold setO; rw [if_pos e]; rfl⟩
theorem due_one : clearE [one] = 0 ∧ dueO 5 [one] = [one] := by
  unfold clearE dueO
  rw [if_pos right_one, if_pos right_one]
  exact ⟨rfl, rfl⟩
set_option maxRecDepth 100000 in
set_option maxHeartbeats 1000000 in
theorem alive_any (w : World) : Calls Try.prog 13 #[] w (BoolB true w) := by
  have h1 := Set_any (nil_row w) (by simp) one
  rw [set_one.1, set_one.2] at h1
  have h2 := fun (v : Value) W (h : QRow W v [one]) => Due_any h (by simp) 5
  simp only [due_one.1, due_one.2] at h2
  generalize restO 5 [one] = r at h2
  have H1 := Lib.hid h1
  have H2 := Lib.hid h2
  unfold wv one at H1
  clear h1 h2
  go_enter Try.func13, Try.ntmps13
  go_wp2_with fail
  (with_reducible refine H1.out.mono ?_)
  rintro e w1 ⟨v1, rfl, hr, hz⟩
  have HR := Lib.hid (H2.out _ _ hr)
  have HZ := Lib.hid hz
  obtain ⟨va, vn, vc, rfl⟩ : ∃ a n c, v1 = .slice a n c := (by obtain ⟨a', c', e⟩ := hr.slice; exact ⟨a', _, c', e⟩)
  clear hr hz
  go_wp2_with fail
  (with_reducible refine HR.out.mono ?_)
  rintro e w2 ⟨v2, v3, rfl, hr, hr3, hz⟩
  have HZ2 := Lib.hid (below_trans HZ.out hz)
  obtain ⟨a2, c2, rfl⟩ := hr.slice
  obtain ⟨a3, n3, c3, rfl⟩ : ∃ a n c, v3 = .slice a n c := (by obtain ⟨a', c', e⟩ := hr3.slice; exact ⟨a', _, c', e⟩)
  obtain ⟨b, off, rfl, hlc, hcap, hb, k0, k1, k2⟩ := hr.at (q := 0) (by simp)
  unfold one at *
  simp only [List.length_cons, List.length_nil, List.getElem_cons_zero, Nat.zero_mul, Nat.add_zero, Nat.zero_add] at *
  clear hr hr3 hz H1 H2 HR
  go_wp2_with fail
  go_ret
  exact ⟨rfl, HZ2.out⟩

section
variable {H : Type} {enc : TypeId × Value → H} {W : World} {base : Nat} {spare : Nat → Bool} {held : Bool}

theorem timer_of {fuel : Nat} {c0 c1 c2 : Value} {x : DataW H × List MemPlace} (h : DataW.trod enc Try.prog W base spare held fuel 24 [c0, c1, c2] = some x) :
    ∃ y : Wt, c0 = .int .i64 y.c ∧ c1 = .int .i64 y.s ∧ c2 = .int .i64 y.o := by
  obtain ⟨xs, n, _, _, _, hx, hf⟩ := DataW.trod_struct Try.underlying24 h
  have k1 : Try.prog.cellsOf 3 = 1 := by kernel_rfl
  match xs, hx with
  | [x0, x1, x2], _ =>
    have g0 : DataW.trod enc Try.prog W base spare held n 3 (([c0, c1, c2].drop 0).take (Try.prog.cellsOf 3)) = some x0 := hf 0 _ rfl
    have g1 : DataW.trod enc Try.prog W base spare held n 3 (([c0, c1, c2].drop 1).take (Try.prog.cellsOf 3)) = some x1 := hf 1 _ rfl
    have g2 : DataW.trod enc Try.prog W base spare held n 3 (([c0, c1, c2].drop 2).take (Try.prog.cellsOf 3)) = some x2 := hf 2 _ rfl
    rw [k1] at g0 g1 g2
    obtain ⟨a, e0, _, _⟩ := DataW.trod_int Try.underlying3 g0
    obtain ⟨b, e1, _, _⟩ := DataW.trod_int Try.underlying3 g1
    obtain ⟨c, e2, _, _⟩ := DataW.trod_int Try.underlying3 g2
    exact ⟨⟨a, b, c⟩, by simpa using e0, by simpa using e1, by simpa using e2⟩

theorem open_timer {v : Value} {fuel : Nat} {x : DataW H × List MemPlace} {r : Reach} {b0 : Nat} (hv : Value.okWide Try.prog W r b0 24 v) (h : DataW.trod enc Try.prog W base spare held fuel 24 v.cells.toList = some x) : ∃ y : Wt, v = wv y := by
  obtain ⟨cs, rfl, hcs⟩ := okWide_struct Try.underlying24 hv
  have h3 : Try.prog.cellsOf 24 = 3 := by kernel_rfl
  rw [h3] at hcs
  match cs, hcs with
  | ⟨[c0, c1, c2]⟩, _ =>
    obtain ⟨y, rfl, rfl, rfl⟩ := timer_of (c0 := c0) (c1 := c1) (c2 := c2) h
    exact ⟨y, rfl⟩

theorem argT_of {fuel : Nat} {v : Value} {x : DataW H × List MemPlace} (h : DataW.trod enc Try.prog W base spare held fuel 22 [v] = some x) : ArgT W v := by
  rcases open_slice Try.underlying22 h with ⟨hcs, _⟩ | ⟨a, len, cap, m, n, D, Pl, hcs, hb, hl, hm, hmm, hx, hi⟩
  · obtain rfl : v = .slice none 0 0 := by simpa using hcs
    exact ⟨[], nil_row _⟩
  · obtain rfl : v = .slice (some a) len cap := by simpa using hcs
    unfold maxLen at hm
    have hls : len ≤ m := by rw [hmm]; split <;> omega
    have k3 : Try.prog.cellsOf 24 = 3 := by kernel_rfl
    obtain ⟨b, off, spot⟩ := a
    have one : ∀ j, ∃ y : Wt, j < len → W.cell? ((⟨b, off, spot⟩ : Addr).add (j * 3)) = some (.int .i64 y.c) ∧ W.cell? (((⟨b, off, spot⟩ : Addr).add (j * 3)).add 1) = some (.int .i64 y.s) ∧ W.cell? (((⟨b, off, spot⟩ : Addr).add (j * 3)).add 2) = some (.int .i64 y.o) := by
      intro j
      by_cases hj : j < len
      · obtain ⟨cs', hc, ht'⟩ := hi j (by omega)
        rw [k3] at hc
        obtain ⟨_, hcl, hat⟩ := World.cells?_some hc
        match cs', hcl with
        | [c0, c1, c2], _ =>
          obtain ⟨y, rfl, rfl, rfl⟩ := timer_of ht'
          refine ⟨y, fun _ => ⟨?_, hat 1 (by omega), hat 2 (by omega)⟩⟩
          have := hat 0 (by omega)
          rwa [show ((⟨b, off, spot⟩ : Addr).add (j * 3)).add 0 = (⟨b, off, spot⟩ : Addr).add (j * 3) by unfold Addr.add; split <;> simp_all] at this
      · exact ⟨⟨0, 0, 0⟩, fun h => absurd h hj⟩
    obtain ⟨f, hf⟩ := Classical.skolem.1 one
    have e1 : ((List.range len).map f).length = len := by simp
    refine ⟨(List.range len).map f, some ⟨b, off, spot⟩, cap, by rw [e1], by omega, by omega, fun h0 => ?_⟩
    rw [e1] at h0
    obtain ⟨z0, _⟩ := hf 0 h0
    have hspot : spot = none := by simpa [Addr.add] using World.cell?_spot z0
    subst hspot
    have ha : ∀ o j, (⟨b, o, none⟩ : Addr).add j = ⟨b, o + j, none⟩ := fun o j => add_off b o j
    refine ⟨b, off, rfl, by simpa [Addr.add] using block_lt_of_cell z0, fun j hj => ?_⟩
    obtain ⟨z0, z1, z2⟩ := hf j (by omega)
    rw [ha] at z0 z1 z2
    rw [ha] at z1 z2
    rw [show ((List.range len).map f)[j] = f j by simp]
    exact ⟨z0, z1, z2⟩
end
end Go.Proofs.Ytncaohdnbibkfaa.Timer
