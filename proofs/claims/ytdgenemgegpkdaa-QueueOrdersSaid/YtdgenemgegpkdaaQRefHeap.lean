/-
  Contract of the reference's Heap.
-/
import Derived.Test.YtdgenemgegpkdaaQSame
import Derived.IntWalk
import Derived.Deep.RegionHeld3
namespace Go.Proofs.Ytdgenemgegpkdaa.Queue
open Go.ChangeShapes Go.WideShapes Go.ChangeAt Go.RowKit Go.Lib Go.Sort

section
variable {P : Program} {md : Region.Mode} {ops : Array Oper} {Q : Exit → Act → World → Prop} {S : World → Prop}
/-- An operation whose guard says no is passed over. -/
theorem skipW (i d : Nat) {oi : Oper} {fuel : Nat} {listed : Array Bool} {a : Act} {w : World} (hQ : ∀ c a o v w, Q (.panic c) (Act.put a o v) w → Q (.panic c) a w) (hi : ops[i]? = some oi) (hd : oi.dst = some d) (hs : Region.noSelect ops = true) (hf : Region.free md ops listed i = true) (hr : (Region.ready md ops listed).contains i = true)
    (hw : Region.wanted oi (yielded ops a.tmps) = false) (hS : S w)
    (h : wpAnyH P md ops Q S fuel (listed.setIfInBounds i true) (a.put (some d) undef) w) : wpAnyH P md ops Q S (fuel + 1) listed a w :=
  wpAnyH_take hi hs hf hr (fun c a w' => hQ c a _ _ w') (.inr ⟨hw, rfl⟩) hS (by rw [hd]; exact h)
end
/-- As far as it was looked. -/
def HpR (l : List Wt) (i : Nat) (w W : World) : Prop := (∀ k, k < i → (∀ (h : 2 * k + 1 < l.length), ltB l[2 * k + 1] l[k] = false) ∧ (∀ (h : 2 * k + 2 < l.length), ltB l[2 * k + 2] l[k] = false)) ∧ Below w.heap.size w W
theorem hpR_end {l : List Wt} (h : ∀ k, k < l.length → (∀ (h : 2 * k + 1 < l.length), ltB l[2 * k + 1] l[k] = false) ∧ (∀ (h : 2 * k + 2 < l.length), ltB l[2 * k + 2] l[k] = false)) : hpB l = true := hpB_t.2 fun k h1 h2 => by
  have h2' : k < l.length := by simpa using h2
  rw [arr_get h2', arr_get (k := (k - 1) / 2) (by omega)]
  rcases (by omega : k = 2 * ((k - 1) / 2) + 1 ∨ k = 2 * ((k - 1) / 2) + 2) with e | e
  · have := (h ((k - 1) / 2) (by omega)).1 (by omega)
    rwa [show l[2 * ((k - 1) / 2) + 1] = l[k] by congr 1; exact e.symm] at this
  · have := (h ((k - 1) / 2) (by omega)).2 (by omega)
    rwa [show l[2 * ((k - 1) / 2) + 2] = l[k] by congr 1; exact e.symm] at this
theorem hp_not {l : List Wt} {p k : Nat} (hp : p < l.length) (h1 : 1 ≤ p) (hk : (p - 1) / 2 = k) (hkl : k < l.length) (h : ltB l[p] l[k] = true) : hpB l = false := hpB_f.2 fun hh => by
  have := hh p h1 (by simpa using hp)
  rw [hk, arr_get hp, arr_get hkl, h] at this
  cases this

set_option maxRecDepth 100000 in
set_option maxHeartbeats 4000000 in
theorem refHeap_any {v : Value} {l : List Wt} {w : World} (h : QRow w v l) (hl : l.length ≤ 1000) : Calls Try.prog 13 #[v] w (BoolB (rightB l) w) := by
  obtain ⟨a, cap, rfl⟩ := h.slice
  have H := Lib.hid h
  have HAL := Lib.hid (fun W (hb : Below w.heap.size w W) => refAll_any (h.below hb) hl)
  obtain ⟨n, hn⟩ : ∃ n, l.length = n := ⟨_, rfl⟩
  rw [hn] at H HAL hl ⊢
  have HN := Lib.hid hn
  clear h hn
  go_enter Try.func13, Try.ntmps13
  go_wp2
  go_loopw [3, 6] (fun _ i wr => ∃ k : Nat, k ≤ n ∧ i = .int .i64 k ∧ HpR l k w wr) (fun _ i _ => n - (Go.RowKit.intOf i).toNat)
  case atStart => exact ⟨0, Nat.zero_le _, rfl, fun k hk => by omega, Below.refl _ _⟩
  case round =>
    obtain ⟨k, hk, rfl, hr⟩ := hrel
    have HR := Lib.hid hr
    clear hr
    by_cases hlt : k < n
    · obtain ⟨p, hp⟩ : ∃ p : Nat, 2 * k + 1 = p := ⟨_, rfl⟩
      obtain ⟨q, hq⟩ : ∃ q : Nat, 2 * k + 2 = q := ⟨_, rfl⟩
      obtain ⟨r, hr⟩ : ∃ r : Nat, 2 * k = r := ⟨_, rfl⟩
      have hw1 : IntKind.i64.wrap (2 * (k : Int)) = (r : Int) := (IntWalk.i64_in _ (by omega)).trans (by omega)
      have hw2 : IntKind.i64.wrap ((r : Int) + 1) = (p : Int) := (IntWalk.i64_in _ (by omega)).trans (by omega)
      have hw3 : IntKind.i64.wrap ((r : Int) + 2) = (q : Int) := (IntWalk.i64_in _ (by omega)).trans (by omega)
      clear hr
      have hkl : k < l.length := by rw [HN.out]; exact hlt
      have ik0 : (0 : Int) ≤ (k : Int) := by omega
      have ik1 : (k : Int) < (n : Int) := by omega
      have ip0 : (0 : Int) ≤ (p : Int) := by omega
      have iq0 : (0 : Int) ≤ (q : Int) := by omega
      have HRW := (H.out.below HR.out.2)
      rw [← HN.out] at HRW
      obtain ⟨b, off, rfl, hlc, hcap, hb, x0, x1, x2⟩ := HRW.at hkl
      by_cases h1 : p < n
      · have hpl : p < l.length := by rw [HN.out]; exact h1
        have ip1 : (p : Int) < (n : Int) := by omega
        have hd1 : decide ((p : Int) < (n : Int)) = true := decide_eq_true ip1
        obtain ⟨_, _, e, _, _, _, y0, y1, y2⟩ := HRW.at hpl
        cases e
        have HV1 : Hid (ltB l[p] l[k] = true → rightB l = false) := Lib.hid (fun hc => by unfold rightB; rw [hp_not hpl (by omega) (by omega : (p - 1) / 2 = k) hkl hc, Bool.and_false])
        have hl1 := fun W => refLess_any l[p] l[k] W
        unfold wv at hl1
        by_cases h2 : q < n
        · have hql : q < l.length := by rw [HN.out]; exact h2
          have iq1 : (q : Int) < (n : Int) := by omega
          have hd2 : decide ((q : Int) < (n : Int)) = true := decide_eq_true iq1
          obtain ⟨_, _, e, _, _, _, z0, z1, z2⟩ := HRW.at hql
          cases e
          have HV2 : Hid (ltB l[q] l[k] = true → rightB l = false) := Lib.hid (fun hc => by unfold rightB; rw [hp_not hql (by omega) (by omega : (q - 1) / 2 = k) hkl hc, Bool.and_false])
          have HC : Hid (ltB l[p] l[k] = false → ltB l[q] l[k] = false → ∀ W, Below w.heap.size w W → HpR l (k + 1) w W) := Lib.hid (fun e1 e2 W hb => ⟨fun j hj => by
            by_cases e : j = k
            · subst e; subst hp; subst hq; exact ⟨fun _ => e1, fun _ => e2⟩
            · exact HR.out.1 j (by omega), hb⟩)
          have hl2 := fun W => refLess_any l[q] l[k] W
          unfold wv at hl2
          clear HRW hp hq
          generalize l[k] = x at *
          generalize l[p] = y at *
          generalize l[q] = z at *
          clear hkl hpl hql
          cases hm1 : ltB y x with
          | true =>
            rw [hm1] at hl1
            have HL1 := Lib.hid hl1
            have HM1 := Lib.hid hm1
            clear hl1 hm1 hl2
            have HSF : Hid (∀ w', Below wr.heap.size wr w' → w'.cell? ⟨b, off + k * 3, none⟩ = some (.int .i64 x.c) ∧ w'.cell? ⟨b, off + k * 3 + 1, none⟩ = some (.int .i64 x.s) ∧ w'.cell? ⟨b, off + k * 3 + 2, none⟩ = some (.int .i64 x.o) ∧ w'.cell? ⟨b, off + p * 3, none⟩ = some (.int .i64 y.c) ∧ w'.cell? ⟨b, off + p * 3 + 1, none⟩ = some (.int .i64 y.s) ∧ w'.cell? ⟨b, off + p * 3 + 2, none⟩ = some (.int .i64 y.o)) := Lib.hid (fun w' h => ⟨(h.cell (p := ⟨b, _, none⟩) hb).trans x0, (h.cell (p := ⟨b, _, none⟩) hb).trans x1, (h.cell (p := ⟨b, _, none⟩) hb).trans x2, (h.cell (p := ⟨b, _, none⟩) hb).trans y0, (h.cell (p := ⟨b, _, none⟩) hb).trans y1, (h.cell (p := ⟨b, _, none⟩) hb).trans y2⟩)
            go_upto_region 4 with fail
            refine wp_region_noPanic ?_
            refine wp_region_held_drew (S := fun w' => w'.cell? ⟨b, off + k * 3, none⟩ = some (.int .i64 x.c) ∧ w'.cell? ⟨b, off + k * 3 + 1, none⟩ = some (.int .i64 x.s) ∧ w'.cell? ⟨b, off + k * 3 + 2, none⟩ = some (.int .i64 x.o) ∧ w'.cell? ⟨b, off + p * 3, none⟩ = some (.int .i64 y.c) ∧ w'.cell? ⟨b, off + p * 3 + 1, none⟩ = some (.int .i64 y.s) ∧ w'.cell? ⟨b, off + p * 3 + 2, none⟩ = some (.int .i64 y.o)) (by kernel_rfl) (HSF.out _ (dr wr)) (fun hHeld => ?_)
            refine takeW 0 9 (.int .i64 k) (fun _ _ _ _ _ h => h) rfl rfl (by kernel_rfl) (by kernel_rfl) (by kernel_rfl) (by rfl) (fun W' hSw => by (try dsimp only at hSw); go_simp) (by assumption) ?_
            try simp only [Act.put, List.setIfInBounds_toArray, List.set_cons_zero, List.set_cons_succ]
            refine takeW 1 10 (.int .i64 r) (fun _ _ _ _ _ h => h) rfl rfl (by kernel_rfl) (by kernel_rfl) (by kernel_rfl) (by rfl) (fun W' hSw => by (try dsimp only at hSw); go_simp) (by assumption) ?_
            try simp only [Act.put, List.setIfInBounds_toArray, List.set_cons_zero, List.set_cons_succ]
            refine takeW 2 11 (.int .i64 p) (fun _ _ _ _ _ h => h) rfl rfl (by kernel_rfl) (by kernel_rfl) (by kernel_rfl) (by rfl) (fun W' hSw => by (try dsimp only at hSw); go_simp) (by assumption) ?_
            try simp only [Act.put, List.setIfInBounds_toArray, List.set_cons_zero, List.set_cons_succ]
            refine takeW 3 12 (.slice (some ⟨b, off, none⟩) n cap) (fun _ _ _ _ _ h => h) rfl rfl (by kernel_rfl) (by kernel_rfl) (by kernel_rfl) (by rfl) (fun W' hSw => by (try dsimp only at hSw); go_simp) (by assumption) ?_
            try simp only [Act.put, List.setIfInBounds_toArray, List.set_cons_zero, List.set_cons_succ]
            refine takeW 4 13 (.int .i64 n) (fun _ _ _ _ _ h => h) rfl rfl (by kernel_rfl) (by kernel_rfl) (by kernel_rfl) (by rfl) (fun W' hSw => by (try dsimp only at hSw); go_simp) (by assumption) ?_
            try simp only [Act.put, List.setIfInBounds_toArray, List.set_cons_zero, List.set_cons_succ]
            refine takeW 5 14 (.bool true) (fun _ _ _ _ _ h => h) rfl rfl (by kernel_rfl) (by kernel_rfl) (by kernel_rfl) (by rfl) (fun W' hSw => by (try dsimp only at hSw); go_simp) (by assumption) ?_
            try simp only [Act.put, List.setIfInBounds_toArray, List.set_cons_zero, List.set_cons_succ]
            refine takeW 6 15 (.bool true) (fun _ _ _ _ _ h => h) rfl rfl (by kernel_rfl) (by kernel_rfl) (by kernel_rfl) (by rfl) (fun W' hSw => by (try dsimp only at hSw); go_simp) (by assumption) ?_
            try simp only [Act.put, List.setIfInBounds_toArray, List.set_cons_zero, List.set_cons_succ]
            refine takeW 7 16 (.slice (some ⟨b, off, none⟩) n cap) (fun _ _ _ _ _ h => h) rfl rfl (by kernel_rfl) (by kernel_rfl) (by kernel_rfl) (by rfl) (fun W' hSw => by (try dsimp only at hSw); go_simp) (by assumption) ?_
            try simp only [Act.put, List.setIfInBounds_toArray, List.set_cons_zero, List.set_cons_succ]
            refine takeW 8 17 (.int .i64 k) (fun _ _ _ _ _ h => h) rfl rfl (by kernel_rfl) (by kernel_rfl) (by kernel_rfl) (by rfl) (fun W' hSw => by (try dsimp only at hSw); go_simp) (by assumption) ?_
            try simp only [Act.put, List.setIfInBounds_toArray, List.set_cons_zero, List.set_cons_succ]
            refine takeW 9 18 (.int .i64 r) (fun _ _ _ _ _ h => h) rfl rfl (by kernel_rfl) (by kernel_rfl) (by kernel_rfl) (by rfl) (fun W' hSw => by (try dsimp only at hSw); go_simp) (by assumption) ?_
            try simp only [Act.put, List.setIfInBounds_toArray, List.set_cons_zero, List.set_cons_succ]
            refine takeW 10 19 (.int .i64 p) (fun _ _ _ _ _ h => h) rfl rfl (by kernel_rfl) (by kernel_rfl) (by kernel_rfl) (by rfl) (fun W' hSw => by (try dsimp only at hSw); go_simp) (by assumption) ?_
            try simp only [Act.put, List.setIfInBounds_toArray, List.set_cons_zero, List.set_cons_succ]
            refine takeW 11 20 (.pointer (some ⟨b, off + p * 3, none⟩)) (fun _ _ _ _ _ h => h) rfl rfl (by kernel_rfl) (by kernel_rfl) (by kernel_rfl) (by rfl) (fun W' hSw => by (try dsimp only at hSw); go_simp) (by assumption) ?_
            try simp only [Act.put, List.setIfInBounds_toArray, List.set_cons_zero, List.set_cons_succ]
            refine takeW 12 21 (.agg #[.int .i64 y.c, .int .i64 y.s, .int .i64 y.o]) (fun _ _ _ _ _ h => h) rfl rfl (by kernel_rfl) (by kernel_rfl) (by kernel_rfl) (by rfl) (fun W' hSw => by (try dsimp only at hSw); go_simp) (by assumption) ?_
            try simp only [Act.put, List.setIfInBounds_toArray, List.set_cons_zero, List.set_cons_succ]
            refine takeW 13 22 (.slice (some ⟨b, off, none⟩) n cap) (fun _ _ _ _ _ h => h) rfl rfl (by kernel_rfl) (by kernel_rfl) (by kernel_rfl) (by rfl) (fun W' hSw => by (try dsimp only at hSw); go_simp) (by assumption) ?_
            try simp only [Act.put, List.setIfInBounds_toArray, List.set_cons_zero, List.set_cons_succ]
            refine takeW 14 23 (.int .i64 k) (fun _ _ _ _ _ h => h) rfl rfl (by kernel_rfl) (by kernel_rfl) (by kernel_rfl) (by rfl) (fun W' hSw => by (try dsimp only at hSw); go_simp) (by assumption) ?_
            try simp only [Act.put, List.setIfInBounds_toArray, List.set_cons_zero, List.set_cons_succ]
            refine takeW 15 24 (.pointer (some ⟨b, off + k * 3, none⟩)) (fun _ _ _ _ _ h => h) rfl rfl (by kernel_rfl) (by kernel_rfl) (by kernel_rfl) (by rfl) (fun W' hSw => by (try dsimp only at hSw); go_simp) (by assumption) ?_
            try simp only [Act.put, List.setIfInBounds_toArray, List.set_cons_zero, List.set_cons_succ]
            refine takeW 16 25 (.agg #[.int .i64 x.c, .int .i64 x.s, .int .i64 x.o]) (fun _ _ _ _ _ h => h) rfl rfl (by kernel_rfl) (by kernel_rfl) (by kernel_rfl) (by rfl) (fun W' hSw => by (try dsimp only at hSw); go_simp) (by assumption) ?_
            try simp only [Act.put, List.setIfInBounds_toArray, List.set_cons_zero, List.set_cons_succ]
            refine wpAnyH_ready (rs := [17]) (by kernel_rfl) (by simp) (AllReadyH.cons rfl (fun K hK => ?_) AllReadyH.nil)
            go_simp
            go_at_call 11
            (with_reducible refine (HL1.out _).mono ?_)
            rintro e w5 ⟨rfl, hz⟩
            have HZ := Lib.hid (below_trans (dr wr) hz)
            clear hz
            go_simp
            refine hK.out _ _ (HSF.out _ HZ.out) (fun hHeld => ?_)
            clear hK
            try simp only [Act.put, List.setIfInBounds_toArray, List.set_cons_zero, List.set_cons_succ]
            refine takeW 18 27 (.bool true) (fun _ _ _ _ _ h => h) rfl rfl (by kernel_rfl) (by kernel_rfl) (by kernel_rfl) (by rfl) (fun W' hSw => by (try dsimp only at hSw); go_simp) (by assumption) ?_
            try simp only [Act.put, List.setIfInBounds_toArray, List.set_cons_zero, List.set_cons_succ]
            refine takeW 19 28 (.bool true) (fun _ _ _ _ _ h => h) rfl rfl (by kernel_rfl) (by kernel_rfl) (by kernel_rfl) (by rfl) (fun W' hSw => by (try dsimp only at hSw); go_simp) (by assumption) ?_
            try simp only [Act.put, List.setIfInBounds_toArray, List.set_cons_zero, List.set_cons_succ]
            refine skipW 20 29 (fun _ _ _ _ _ h => h) rfl rfl (by kernel_rfl) (by kernel_rfl) (by kernel_rfl) (by rfl) (by assumption) ?_
            try simp only [Act.put, List.setIfInBounds_toArray, List.set_cons_zero, List.set_cons_succ]
            refine skipW 21 30 (fun _ _ _ _ _ h => h) rfl rfl (by kernel_rfl) (by kernel_rfl) (by kernel_rfl) (by rfl) (by assumption) ?_
            try simp only [Act.put, List.setIfInBounds_toArray, List.set_cons_zero, List.set_cons_succ]
            refine skipW 22 31 (fun _ _ _ _ _ h => h) rfl rfl (by kernel_rfl) (by kernel_rfl) (by kernel_rfl) (by rfl) (by assumption) ?_
            try simp only [Act.put, List.setIfInBounds_toArray, List.set_cons_zero, List.set_cons_succ]
            refine skipW 23 32 (fun _ _ _ _ _ h => h) rfl rfl (by kernel_rfl) (by kernel_rfl) (by kernel_rfl) (by rfl) (by assumption) ?_
            try simp only [Act.put, List.setIfInBounds_toArray, List.set_cons_zero, List.set_cons_succ]
            refine skipW 24 33 (fun _ _ _ _ _ h => h) rfl rfl (by kernel_rfl) (by kernel_rfl) (by kernel_rfl) (by rfl) (by assumption) ?_
            try simp only [Act.put, List.setIfInBounds_toArray, List.set_cons_zero, List.set_cons_succ]
            refine skipW 25 34 (fun _ _ _ _ _ h => h) rfl rfl (by kernel_rfl) (by kernel_rfl) (by kernel_rfl) (by rfl) (by assumption) ?_
            try simp only [Act.put, List.setIfInBounds_toArray, List.set_cons_zero, List.set_cons_succ]
            refine skipW 26 35 (fun _ _ _ _ _ h => h) rfl rfl (by kernel_rfl) (by kernel_rfl) (by kernel_rfl) (by rfl) (by assumption) ?_
            try simp only [Act.put, List.setIfInBounds_toArray, List.set_cons_zero, List.set_cons_succ]
            refine skipW 27 36 (fun _ _ _ _ _ h => h) rfl rfl (by kernel_rfl) (by kernel_rfl) (by kernel_rfl) (by rfl) (by assumption) ?_
            try simp only [Act.put, List.setIfInBounds_toArray, List.set_cons_zero, List.set_cons_succ]
            refine skipW 28 37 (fun _ _ _ _ _ h => h) rfl rfl (by kernel_rfl) (by kernel_rfl) (by kernel_rfl) (by rfl) (by assumption) ?_
            try simp only [Act.put, List.setIfInBounds_toArray, List.set_cons_zero, List.set_cons_succ]
            refine skipW 29 38 (fun _ _ _ _ _ h => h) rfl rfl (by kernel_rfl) (by kernel_rfl) (by kernel_rfl) (by rfl) (by assumption) ?_
            try simp only [Act.put, List.setIfInBounds_toArray, List.set_cons_zero, List.set_cons_succ]
            refine skipW 30 39 (fun _ _ _ _ _ h => h) rfl rfl (by kernel_rfl) (by kernel_rfl) (by kernel_rfl) (by rfl) (by assumption) ?_
            try simp only [Act.put, List.setIfInBounds_toArray, List.set_cons_zero, List.set_cons_succ]
            refine skipW 31 40 (fun _ _ _ _ _ h => h) rfl rfl (by kernel_rfl) (by kernel_rfl) (by kernel_rfl) (by rfl) (by assumption) ?_
            try simp only [Act.put, List.setIfInBounds_toArray, List.set_cons_zero, List.set_cons_succ]
            refine skipW 32 41 (fun _ _ _ _ _ h => h) rfl rfl (by kernel_rfl) (by kernel_rfl) (by kernel_rfl) (by rfl) (by assumption) ?_
            try simp only [Act.put, List.setIfInBounds_toArray, List.set_cons_zero, List.set_cons_succ]
            refine skipW 33 42 (fun _ _ _ _ _ h => h) rfl rfl (by kernel_rfl) (by kernel_rfl) (by kernel_rfl) (by rfl) (by assumption) ?_
            try simp only [Act.put, List.setIfInBounds_toArray, List.set_cons_zero, List.set_cons_succ]
            refine skipW 34 43 (fun _ _ _ _ _ h => h) rfl rfl (by kernel_rfl) (by kernel_rfl) (by kernel_rfl) (by rfl) (by assumption) ?_
            try simp only [Act.put, List.setIfInBounds_toArray, List.set_cons_zero, List.set_cons_succ]
            refine skipW 35 44 (fun _ _ _ _ _ h => h) rfl rfl (by kernel_rfl) (by kernel_rfl) (by kernel_rfl) (by rfl) (by assumption) ?_
            try simp only [Act.put, List.setIfInBounds_toArray, List.set_cons_zero, List.set_cons_succ]
            refine skipW 36 45 (fun _ _ _ _ _ h => h) rfl rfl (by kernel_rfl) (by kernel_rfl) (by kernel_rfl) (by rfl) (by assumption) ?_
            try simp only [Act.put, List.setIfInBounds_toArray, List.set_cons_zero, List.set_cons_succ]
            refine skipW 37 46 (fun _ _ _ _ _ h => h) rfl rfl (by kernel_rfl) (by kernel_rfl) (by kernel_rfl) (by rfl) (by assumption) ?_
            try simp only [Act.put, List.setIfInBounds_toArray, List.set_cons_zero, List.set_cons_succ]
            refine skipW 38 47 (fun _ _ _ _ _ h => h) rfl rfl (by kernel_rfl) (by kernel_rfl) (by kernel_rfl) (by rfl) (by assumption) ?_
            try simp only [Act.put, List.setIfInBounds_toArray, List.set_cons_zero, List.set_cons_succ]
            refine takeW 39 48 (.bool true) (fun _ _ _ _ _ h => h) rfl rfl (by kernel_rfl) (by kernel_rfl) (by kernel_rfl) (by rfl) (fun W' hSw => by (try dsimp only at hSw); go_simp) (by assumption) ?_
            try simp only [Act.put, List.setIfInBounds_toArray, List.set_cons_zero, List.set_cons_succ]
            refine wpAnyH_done (by kernel_rfl) ?_ _
            refine NoPanic.normal ?_
            go_wp2_with fail
            go_ret
            exact ⟨ret_bool (HV1.out HM1.out).symm, below_trans HR.out.2 HZ.out⟩
          | false =>
            rw [hm1] at hl1
            have HL1 := Lib.hid hl1
            have HM1 := Lib.hid hm1
            clear hl1 hm1
            cases hm2 : ltB z x with
            | true =>
              rw [hm2] at hl2
              have HL2 := Lib.hid hl2
              have HM2 := Lib.hid hm2
              clear hl2 hm2
              have HSF : Hid (∀ w', Below wr.heap.size wr w' → w'.cell? ⟨b, off + k * 3, none⟩ = some (.int .i64 x.c) ∧ w'.cell? ⟨b, off + k * 3 + 1, none⟩ = some (.int .i64 x.s) ∧ w'.cell? ⟨b, off + k * 3 + 2, none⟩ = some (.int .i64 x.o) ∧ w'.cell? ⟨b, off + p * 3, none⟩ = some (.int .i64 y.c) ∧ w'.cell? ⟨b, off + p * 3 + 1, none⟩ = some (.int .i64 y.s) ∧ w'.cell? ⟨b, off + p * 3 + 2, none⟩ = some (.int .i64 y.o) ∧ w'.cell? ⟨b, off + q * 3, none⟩ = some (.int .i64 z.c) ∧ w'.cell? ⟨b, off + q * 3 + 1, none⟩ = some (.int .i64 z.s) ∧ w'.cell? ⟨b, off + q * 3 + 2, none⟩ = some (.int .i64 z.o)) := Lib.hid (fun w' h => ⟨(h.cell (p := ⟨b, _, none⟩) hb).trans x0, (h.cell (p := ⟨b, _, none⟩) hb).trans x1, (h.cell (p := ⟨b, _, none⟩) hb).trans x2, (h.cell (p := ⟨b, _, none⟩) hb).trans y0, (h.cell (p := ⟨b, _, none⟩) hb).trans y1, (h.cell (p := ⟨b, _, none⟩) hb).trans y2, (h.cell (p := ⟨b, _, none⟩) hb).trans z0, (h.cell (p := ⟨b, _, none⟩) hb).trans z1, (h.cell (p := ⟨b, _, none⟩) hb).trans z2⟩)
              go_upto_region 4 with fail
              go_region_held3 (fun w' => w'.cell? ⟨b, off + k * 3, none⟩ = some (.int .i64 x.c) ∧ w'.cell? ⟨b, off + k * 3 + 1, none⟩ = some (.int .i64 x.s) ∧ w'.cell? ⟨b, off + k * 3 + 2, none⟩ = some (.int .i64 x.o) ∧ w'.cell? ⟨b, off + p * 3, none⟩ = some (.int .i64 y.c) ∧ w'.cell? ⟨b, off + p * 3 + 1, none⟩ = some (.int .i64 y.s) ∧ w'.cell? ⟨b, off + p * 3 + 2, none⟩ = some (.int .i64 y.o) ∧ w'.cell? ⟨b, off + q * 3, none⟩ = some (.int .i64 z.c) ∧ w'.cell? ⟨b, off + q * 3 + 1, none⟩ = some (.int .i64 z.s) ∧ w'.cell? ⟨b, off + q * 3 + 2, none⟩ = some (.int .i64 z.o)) (first | with_reducible exact HSF.out _ (dr wr) | with_reducible exact HSF.out _ HZ.out | with_reducible exact HSF.out _ HZ2.out | fail)
                (first
                  | (go_at_call 11; (with_reducible refine (HL1.out _).mono ?_); rintro e w5 ⟨rfl, hz⟩; have HZ := Lib.hid (below_trans (dr wr) hz); clear hz)
                  | (go_at_call 11; (with_reducible refine (HL2.out _).mono ?_); rintro e w6 ⟨rfl, hz⟩; have HZ2 := Lib.hid (below_trans HZ.out hz); clear hz)
                  | fail)
              go_wp2_with fail
              go_ret
              exact ⟨ret_bool (HV2.out HM2.out).symm, below_trans HR.out.2 HZ2.out⟩
            | false =>
              rw [hm2] at hl2
              have HL2 := Lib.hid hl2
              have HM2 := Lib.hid hm2
              clear hl2 hm2
              have HSF : Hid (∀ w', Below wr.heap.size wr w' → w'.cell? ⟨b, off + k * 3, none⟩ = some (.int .i64 x.c) ∧ w'.cell? ⟨b, off + k * 3 + 1, none⟩ = some (.int .i64 x.s) ∧ w'.cell? ⟨b, off + k * 3 + 2, none⟩ = some (.int .i64 x.o) ∧ w'.cell? ⟨b, off + p * 3, none⟩ = some (.int .i64 y.c) ∧ w'.cell? ⟨b, off + p * 3 + 1, none⟩ = some (.int .i64 y.s) ∧ w'.cell? ⟨b, off + p * 3 + 2, none⟩ = some (.int .i64 y.o) ∧ w'.cell? ⟨b, off + q * 3, none⟩ = some (.int .i64 z.c) ∧ w'.cell? ⟨b, off + q * 3 + 1, none⟩ = some (.int .i64 z.s) ∧ w'.cell? ⟨b, off + q * 3 + 2, none⟩ = some (.int .i64 z.o)) := Lib.hid (fun w' h => ⟨(h.cell (p := ⟨b, _, none⟩) hb).trans x0, (h.cell (p := ⟨b, _, none⟩) hb).trans x1, (h.cell (p := ⟨b, _, none⟩) hb).trans x2, (h.cell (p := ⟨b, _, none⟩) hb).trans y0, (h.cell (p := ⟨b, _, none⟩) hb).trans y1, (h.cell (p := ⟨b, _, none⟩) hb).trans y2, (h.cell (p := ⟨b, _, none⟩) hb).trans z0, (h.cell (p := ⟨b, _, none⟩) hb).trans z1, (h.cell (p := ⟨b, _, none⟩) hb).trans z2⟩)
              go_upto_region 4 with fail
              go_region_held3 (fun w' => w'.cell? ⟨b, off + k * 3, none⟩ = some (.int .i64 x.c) ∧ w'.cell? ⟨b, off + k * 3 + 1, none⟩ = some (.int .i64 x.s) ∧ w'.cell? ⟨b, off + k * 3 + 2, none⟩ = some (.int .i64 x.o) ∧ w'.cell? ⟨b, off + p * 3, none⟩ = some (.int .i64 y.c) ∧ w'.cell? ⟨b, off + p * 3 + 1, none⟩ = some (.int .i64 y.s) ∧ w'.cell? ⟨b, off + p * 3 + 2, none⟩ = some (.int .i64 y.o) ∧ w'.cell? ⟨b, off + q * 3, none⟩ = some (.int .i64 z.c) ∧ w'.cell? ⟨b, off + q * 3 + 1, none⟩ = some (.int .i64 z.s) ∧ w'.cell? ⟨b, off + q * 3 + 2, none⟩ = some (.int .i64 z.o)) (first | with_reducible exact HSF.out _ (dr wr) | with_reducible exact HSF.out _ HZ.out | with_reducible exact HSF.out _ HZ2.out | fail)
                (first
                  | (go_at_call 11; (with_reducible refine (HL1.out _).mono ?_); rintro e w5 ⟨rfl, hz⟩; have HZ := Lib.hid (below_trans (dr wr) hz); clear hz)
                  | (go_at_call 11; (with_reducible refine (HL2.out _).mono ?_); rintro e w6 ⟨rfl, hz⟩; have HZ2 := Lib.hid (below_trans HZ.out hz); clear hz)
                  | fail)
              go_wp2_with fail
              go_roundw
              case rel => exact ⟨k + 1, by omega, by go_num, HC.out HM1.out HM2.out _ (below_trans HR.out.2 HZ2.out)⟩
              case measure => simp [Go.RowKit.intOf]; omega
        · have hd2 : decide ((q : Int) < (n : Int)) = false := decide_eq_false (by omega)
          have HC : Hid (ltB l[p] l[k] = false → ∀ W, Below w.heap.size w W → HpR l (k + 1) w W) := Lib.hid (fun e1 W hb => ⟨fun j hj => by
            by_cases e : j = k
            · subst e; subst hp; subst hq; exact ⟨fun _ => e1, fun h => absurd h (by rw [HN.out]; exact h2)⟩
            · exact HR.out.1 j (by omega), hb⟩)
          clear HRW hp hq
          generalize l[k] = x at *
          generalize l[p] = y at *
          clear hkl hpl
          cases hm1 : ltB y x with
          | true =>
            rw [hm1] at hl1
            have HL1 := Lib.hid hl1
            have HM1 := Lib.hid hm1
            clear hl1 hm1
            have HSF : Hid (∀ w', Below wr.heap.size wr w' → w'.cell? ⟨b, off + k * 3, none⟩ = some (.int .i64 x.c) ∧ w'.cell? ⟨b, off + k * 3 + 1, none⟩ = some (.int .i64 x.s) ∧ w'.cell? ⟨b, off + k * 3 + 2, none⟩ = some (.int .i64 x.o) ∧ w'.cell? ⟨b, off + p * 3, none⟩ = some (.int .i64 y.c) ∧ w'.cell? ⟨b, off + p * 3 + 1, none⟩ = some (.int .i64 y.s) ∧ w'.cell? ⟨b, off + p * 3 + 2, none⟩ = some (.int .i64 y.o)) := Lib.hid (fun w' h => ⟨(h.cell (p := ⟨b, _, none⟩) hb).trans x0, (h.cell (p := ⟨b, _, none⟩) hb).trans x1, (h.cell (p := ⟨b, _, none⟩) hb).trans x2, (h.cell (p := ⟨b, _, none⟩) hb).trans y0, (h.cell (p := ⟨b, _, none⟩) hb).trans y1, (h.cell (p := ⟨b, _, none⟩) hb).trans y2⟩)
            go_upto_region 4 with fail
            refine wp_region_noPanic ?_
            refine wp_region_held_drew (S := fun w' => w'.cell? ⟨b, off + k * 3, none⟩ = some (.int .i64 x.c) ∧ w'.cell? ⟨b, off + k * 3 + 1, none⟩ = some (.int .i64 x.s) ∧ w'.cell? ⟨b, off + k * 3 + 2, none⟩ = some (.int .i64 x.o) ∧ w'.cell? ⟨b, off + p * 3, none⟩ = some (.int .i64 y.c) ∧ w'.cell? ⟨b, off + p * 3 + 1, none⟩ = some (.int .i64 y.s) ∧ w'.cell? ⟨b, off + p * 3 + 2, none⟩ = some (.int .i64 y.o)) (by kernel_rfl) (HSF.out _ (dr wr)) (fun hHeld => ?_)
            refine takeW 0 9 (.int .i64 k) (fun _ _ _ _ _ h => h) rfl rfl (by kernel_rfl) (by kernel_rfl) (by kernel_rfl) (by rfl) (fun W' hSw => by (try dsimp only at hSw); go_simp) (by assumption) ?_
            try simp only [Act.put, List.setIfInBounds_toArray, List.set_cons_zero, List.set_cons_succ]
            refine takeW 1 10 (.int .i64 r) (fun _ _ _ _ _ h => h) rfl rfl (by kernel_rfl) (by kernel_rfl) (by kernel_rfl) (by rfl) (fun W' hSw => by (try dsimp only at hSw); go_simp) (by assumption) ?_
            try simp only [Act.put, List.setIfInBounds_toArray, List.set_cons_zero, List.set_cons_succ]
            refine takeW 2 11 (.int .i64 p) (fun _ _ _ _ _ h => h) rfl rfl (by kernel_rfl) (by kernel_rfl) (by kernel_rfl) (by rfl) (fun W' hSw => by (try dsimp only at hSw); go_simp) (by assumption) ?_
            try simp only [Act.put, List.setIfInBounds_toArray, List.set_cons_zero, List.set_cons_succ]
            refine takeW 3 12 (.slice (some ⟨b, off, none⟩) n cap) (fun _ _ _ _ _ h => h) rfl rfl (by kernel_rfl) (by kernel_rfl) (by kernel_rfl) (by rfl) (fun W' hSw => by (try dsimp only at hSw); go_simp) (by assumption) ?_
            try simp only [Act.put, List.setIfInBounds_toArray, List.set_cons_zero, List.set_cons_succ]
            refine takeW 4 13 (.int .i64 n) (fun _ _ _ _ _ h => h) rfl rfl (by kernel_rfl) (by kernel_rfl) (by kernel_rfl) (by rfl) (fun W' hSw => by (try dsimp only at hSw); go_simp) (by assumption) ?_
            try simp only [Act.put, List.setIfInBounds_toArray, List.set_cons_zero, List.set_cons_succ]
            refine takeW 5 14 (.bool true) (fun _ _ _ _ _ h => h) rfl rfl (by kernel_rfl) (by kernel_rfl) (by kernel_rfl) (by rfl) (fun W' hSw => by (try dsimp only at hSw); go_simp) (by assumption) ?_
            try simp only [Act.put, List.setIfInBounds_toArray, List.set_cons_zero, List.set_cons_succ]
            refine takeW 6 15 (.bool true) (fun _ _ _ _ _ h => h) rfl rfl (by kernel_rfl) (by kernel_rfl) (by kernel_rfl) (by rfl) (fun W' hSw => by (try dsimp only at hSw); go_simp) (by assumption) ?_
            try simp only [Act.put, List.setIfInBounds_toArray, List.set_cons_zero, List.set_cons_succ]
            refine takeW 7 16 (.slice (some ⟨b, off, none⟩) n cap) (fun _ _ _ _ _ h => h) rfl rfl (by kernel_rfl) (by kernel_rfl) (by kernel_rfl) (by rfl) (fun W' hSw => by (try dsimp only at hSw); go_simp) (by assumption) ?_
            try simp only [Act.put, List.setIfInBounds_toArray, List.set_cons_zero, List.set_cons_succ]
            refine takeW 8 17 (.int .i64 k) (fun _ _ _ _ _ h => h) rfl rfl (by kernel_rfl) (by kernel_rfl) (by kernel_rfl) (by rfl) (fun W' hSw => by (try dsimp only at hSw); go_simp) (by assumption) ?_
            try simp only [Act.put, List.setIfInBounds_toArray, List.set_cons_zero, List.set_cons_succ]
            refine takeW 9 18 (.int .i64 r) (fun _ _ _ _ _ h => h) rfl rfl (by kernel_rfl) (by kernel_rfl) (by kernel_rfl) (by rfl) (fun W' hSw => by (try dsimp only at hSw); go_simp) (by assumption) ?_
            try simp only [Act.put, List.setIfInBounds_toArray, List.set_cons_zero, List.set_cons_succ]
            refine takeW 10 19 (.int .i64 p) (fun _ _ _ _ _ h => h) rfl rfl (by kernel_rfl) (by kernel_rfl) (by kernel_rfl) (by rfl) (fun W' hSw => by (try dsimp only at hSw); go_simp) (by assumption) ?_
            try simp only [Act.put, List.setIfInBounds_toArray, List.set_cons_zero, List.set_cons_succ]
            refine takeW 11 20 (.pointer (some ⟨b, off + p * 3, none⟩)) (fun _ _ _ _ _ h => h) rfl rfl (by kernel_rfl) (by kernel_rfl) (by kernel_rfl) (by rfl) (fun W' hSw => by (try dsimp only at hSw); go_simp) (by assumption) ?_
            try simp only [Act.put, List.setIfInBounds_toArray, List.set_cons_zero, List.set_cons_succ]
            refine takeW 12 21 (.agg #[.int .i64 y.c, .int .i64 y.s, .int .i64 y.o]) (fun _ _ _ _ _ h => h) rfl rfl (by kernel_rfl) (by kernel_rfl) (by kernel_rfl) (by rfl) (fun W' hSw => by (try dsimp only at hSw); go_simp) (by assumption) ?_
            try simp only [Act.put, List.setIfInBounds_toArray, List.set_cons_zero, List.set_cons_succ]
            refine takeW 13 22 (.slice (some ⟨b, off, none⟩) n cap) (fun _ _ _ _ _ h => h) rfl rfl (by kernel_rfl) (by kernel_rfl) (by kernel_rfl) (by rfl) (fun W' hSw => by (try dsimp only at hSw); go_simp) (by assumption) ?_
            try simp only [Act.put, List.setIfInBounds_toArray, List.set_cons_zero, List.set_cons_succ]
            refine takeW 14 23 (.int .i64 k) (fun _ _ _ _ _ h => h) rfl rfl (by kernel_rfl) (by kernel_rfl) (by kernel_rfl) (by rfl) (fun W' hSw => by (try dsimp only at hSw); go_simp) (by assumption) ?_
            try simp only [Act.put, List.setIfInBounds_toArray, List.set_cons_zero, List.set_cons_succ]
            refine takeW 15 24 (.pointer (some ⟨b, off + k * 3, none⟩)) (fun _ _ _ _ _ h => h) rfl rfl (by kernel_rfl) (by kernel_rfl) (by kernel_rfl) (by rfl) (fun W' hSw => by (try dsimp only at hSw); go_simp) (by assumption) ?_
            try simp only [Act.put, List.setIfInBounds_toArray, List.set_cons_zero, List.set_cons_succ]
            refine takeW 16 25 (.agg #[.int .i64 x.c, .int .i64 x.s, .int .i64 x.o]) (fun _ _ _ _ _ h => h) rfl rfl (by kernel_rfl) (by kernel_rfl) (by kernel_rfl) (by rfl) (fun W' hSw => by (try dsimp only at hSw); go_simp) (by assumption) ?_
            try simp only [Act.put, List.setIfInBounds_toArray, List.set_cons_zero, List.set_cons_succ]
            refine wpAnyH_ready (rs := [17]) (by kernel_rfl) (by simp) (AllReadyH.cons rfl (fun K hK => ?_) AllReadyH.nil)
            go_simp
            go_at_call 11
            (with_reducible refine (HL1.out _).mono ?_)
            rintro e w5 ⟨rfl, hz⟩
            have HZ := Lib.hid (below_trans (dr wr) hz)
            clear hz
            go_simp
            refine hK.out _ _ (HSF.out _ HZ.out) (fun hHeld => ?_)
            clear hK
            try simp only [Act.put, List.setIfInBounds_toArray, List.set_cons_zero, List.set_cons_succ]
            refine takeW 18 27 (.bool true) (fun _ _ _ _ _ h => h) rfl rfl (by kernel_rfl) (by kernel_rfl) (by kernel_rfl) (by rfl) (fun W' hSw => by (try dsimp only at hSw); go_simp) (by assumption) ?_
            try simp only [Act.put, List.setIfInBounds_toArray, List.set_cons_zero, List.set_cons_succ]
            refine takeW 19 28 (.bool true) (fun _ _ _ _ _ h => h) rfl rfl (by kernel_rfl) (by kernel_rfl) (by kernel_rfl) (by rfl) (fun W' hSw => by (try dsimp only at hSw); go_simp) (by assumption) ?_
            try simp only [Act.put, List.setIfInBounds_toArray, List.set_cons_zero, List.set_cons_succ]
            refine skipW 20 29 (fun _ _ _ _ _ h => h) rfl rfl (by kernel_rfl) (by kernel_rfl) (by kernel_rfl) (by rfl) (by assumption) ?_
            try simp only [Act.put, List.setIfInBounds_toArray, List.set_cons_zero, List.set_cons_succ]
            refine skipW 21 30 (fun _ _ _ _ _ h => h) rfl rfl (by kernel_rfl) (by kernel_rfl) (by kernel_rfl) (by rfl) (by assumption) ?_
            try simp only [Act.put, List.setIfInBounds_toArray, List.set_cons_zero, List.set_cons_succ]
            refine skipW 22 31 (fun _ _ _ _ _ h => h) rfl rfl (by kernel_rfl) (by kernel_rfl) (by kernel_rfl) (by rfl) (by assumption) ?_
            try simp only [Act.put, List.setIfInBounds_toArray, List.set_cons_zero, List.set_cons_succ]
            refine skipW 23 32 (fun _ _ _ _ _ h => h) rfl rfl (by kernel_rfl) (by kernel_rfl) (by kernel_rfl) (by rfl) (by assumption) ?_
            try simp only [Act.put, List.setIfInBounds_toArray, List.set_cons_zero, List.set_cons_succ]
            refine skipW 24 33 (fun _ _ _ _ _ h => h) rfl rfl (by kernel_rfl) (by kernel_rfl) (by kernel_rfl) (by rfl) (by assumption) ?_
            try simp only [Act.put, List.setIfInBounds_toArray, List.set_cons_zero, List.set_cons_succ]
            refine skipW 25 34 (fun _ _ _ _ _ h => h) rfl rfl (by kernel_rfl) (by kernel_rfl) (by kernel_rfl) (by rfl) (by assumption) ?_
            try simp only [Act.put, List.setIfInBounds_toArray, List.set_cons_zero, List.set_cons_succ]
            refine skipW 26 35 (fun _ _ _ _ _ h => h) rfl rfl (by kernel_rfl) (by kernel_rfl) (by kernel_rfl) (by rfl) (by assumption) ?_
            try simp only [Act.put, List.setIfInBounds_toArray, List.set_cons_zero, List.set_cons_succ]
            refine skipW 27 36 (fun _ _ _ _ _ h => h) rfl rfl (by kernel_rfl) (by kernel_rfl) (by kernel_rfl) (by rfl) (by assumption) ?_
            try simp only [Act.put, List.setIfInBounds_toArray, List.set_cons_zero, List.set_cons_succ]
            refine skipW 28 37 (fun _ _ _ _ _ h => h) rfl rfl (by kernel_rfl) (by kernel_rfl) (by kernel_rfl) (by rfl) (by assumption) ?_
            try simp only [Act.put, List.setIfInBounds_toArray, List.set_cons_zero, List.set_cons_succ]
            refine skipW 29 38 (fun _ _ _ _ _ h => h) rfl rfl (by kernel_rfl) (by kernel_rfl) (by kernel_rfl) (by rfl) (by assumption) ?_
            try simp only [Act.put, List.setIfInBounds_toArray, List.set_cons_zero, List.set_cons_succ]
            refine skipW 30 39 (fun _ _ _ _ _ h => h) rfl rfl (by kernel_rfl) (by kernel_rfl) (by kernel_rfl) (by rfl) (by assumption) ?_
            try simp only [Act.put, List.setIfInBounds_toArray, List.set_cons_zero, List.set_cons_succ]
            refine skipW 31 40 (fun _ _ _ _ _ h => h) rfl rfl (by kernel_rfl) (by kernel_rfl) (by kernel_rfl) (by rfl) (by assumption) ?_
            try simp only [Act.put, List.setIfInBounds_toArray, List.set_cons_zero, List.set_cons_succ]
            refine skipW 32 41 (fun _ _ _ _ _ h => h) rfl rfl (by kernel_rfl) (by kernel_rfl) (by kernel_rfl) (by rfl) (by assumption) ?_
            try simp only [Act.put, List.setIfInBounds_toArray, List.set_cons_zero, List.set_cons_succ]
            refine skipW 33 42 (fun _ _ _ _ _ h => h) rfl rfl (by kernel_rfl) (by kernel_rfl) (by kernel_rfl) (by rfl) (by assumption) ?_
            try simp only [Act.put, List.setIfInBounds_toArray, List.set_cons_zero, List.set_cons_succ]
            refine skipW 34 43 (fun _ _ _ _ _ h => h) rfl rfl (by kernel_rfl) (by kernel_rfl) (by kernel_rfl) (by rfl) (by assumption) ?_
            try simp only [Act.put, List.setIfInBounds_toArray, List.set_cons_zero, List.set_cons_succ]
            refine skipW 35 44 (fun _ _ _ _ _ h => h) rfl rfl (by kernel_rfl) (by kernel_rfl) (by kernel_rfl) (by rfl) (by assumption) ?_
            try simp only [Act.put, List.setIfInBounds_toArray, List.set_cons_zero, List.set_cons_succ]
            refine skipW 36 45 (fun _ _ _ _ _ h => h) rfl rfl (by kernel_rfl) (by kernel_rfl) (by kernel_rfl) (by rfl) (by assumption) ?_
            try simp only [Act.put, List.setIfInBounds_toArray, List.set_cons_zero, List.set_cons_succ]
            refine skipW 37 46 (fun _ _ _ _ _ h => h) rfl rfl (by kernel_rfl) (by kernel_rfl) (by kernel_rfl) (by rfl) (by assumption) ?_
            try simp only [Act.put, List.setIfInBounds_toArray, List.set_cons_zero, List.set_cons_succ]
            refine skipW 38 47 (fun _ _ _ _ _ h => h) rfl rfl (by kernel_rfl) (by kernel_rfl) (by kernel_rfl) (by rfl) (by assumption) ?_
            try simp only [Act.put, List.setIfInBounds_toArray, List.set_cons_zero, List.set_cons_succ]
            refine takeW 39 48 (.bool true) (fun _ _ _ _ _ h => h) rfl rfl (by kernel_rfl) (by kernel_rfl) (by kernel_rfl) (by rfl) (fun W' hSw => by (try dsimp only at hSw); go_simp) (by assumption) ?_
            try simp only [Act.put, List.setIfInBounds_toArray, List.set_cons_zero, List.set_cons_succ]
            refine wpAnyH_done (by kernel_rfl) ?_ _
            refine NoPanic.normal ?_
            go_wp2_with fail
            go_ret
            exact ⟨ret_bool (HV1.out HM1.out).symm, below_trans HR.out.2 HZ.out⟩
          | false =>
            rw [hm1] at hl1
            have HL1 := Lib.hid hl1
            have HM1 := Lib.hid hm1
            clear hl1 hm1
            have HSF : Hid (∀ w', Below wr.heap.size wr w' → w'.cell? ⟨b, off + k * 3, none⟩ = some (.int .i64 x.c) ∧ w'.cell? ⟨b, off + k * 3 + 1, none⟩ = some (.int .i64 x.s) ∧ w'.cell? ⟨b, off + k * 3 + 2, none⟩ = some (.int .i64 x.o) ∧ w'.cell? ⟨b, off + p * 3, none⟩ = some (.int .i64 y.c) ∧ w'.cell? ⟨b, off + p * 3 + 1, none⟩ = some (.int .i64 y.s) ∧ w'.cell? ⟨b, off + p * 3 + 2, none⟩ = some (.int .i64 y.o)) := Lib.hid (fun w' h => ⟨(h.cell (p := ⟨b, _, none⟩) hb).trans x0, (h.cell (p := ⟨b, _, none⟩) hb).trans x1, (h.cell (p := ⟨b, _, none⟩) hb).trans x2, (h.cell (p := ⟨b, _, none⟩) hb).trans y0, (h.cell (p := ⟨b, _, none⟩) hb).trans y1, (h.cell (p := ⟨b, _, none⟩) hb).trans y2⟩)
            go_upto_region 4 with fail
            refine wp_region_noPanic ?_
            refine wp_region_held_drew (S := fun w' => w'.cell? ⟨b, off + k * 3, none⟩ = some (.int .i64 x.c) ∧ w'.cell? ⟨b, off + k * 3 + 1, none⟩ = some (.int .i64 x.s) ∧ w'.cell? ⟨b, off + k * 3 + 2, none⟩ = some (.int .i64 x.o) ∧ w'.cell? ⟨b, off + p * 3, none⟩ = some (.int .i64 y.c) ∧ w'.cell? ⟨b, off + p * 3 + 1, none⟩ = some (.int .i64 y.s) ∧ w'.cell? ⟨b, off + p * 3 + 2, none⟩ = some (.int .i64 y.o)) (by kernel_rfl) (HSF.out _ (dr wr)) (fun hHeld => ?_)
            refine takeW 0 9 (.int .i64 k) (fun _ _ _ _ _ h => h) rfl rfl (by kernel_rfl) (by kernel_rfl) (by kernel_rfl) (by rfl) (fun W' hSw => by (try dsimp only at hSw); go_simp) (by assumption) ?_
            try simp only [Act.put, List.setIfInBounds_toArray, List.set_cons_zero, List.set_cons_succ]
            refine takeW 1 10 (.int .i64 r) (fun _ _ _ _ _ h => h) rfl rfl (by kernel_rfl) (by kernel_rfl) (by kernel_rfl) (by rfl) (fun W' hSw => by (try dsimp only at hSw); go_simp) (by assumption) ?_
            try simp only [Act.put, List.setIfInBounds_toArray, List.set_cons_zero, List.set_cons_succ]
            refine takeW 2 11 (.int .i64 p) (fun _ _ _ _ _ h => h) rfl rfl (by kernel_rfl) (by kernel_rfl) (by kernel_rfl) (by rfl) (fun W' hSw => by (try dsimp only at hSw); go_simp) (by assumption) ?_
            try simp only [Act.put, List.setIfInBounds_toArray, List.set_cons_zero, List.set_cons_succ]
            refine takeW 3 12 (.slice (some ⟨b, off, none⟩) n cap) (fun _ _ _ _ _ h => h) rfl rfl (by kernel_rfl) (by kernel_rfl) (by kernel_rfl) (by rfl) (fun W' hSw => by (try dsimp only at hSw); go_simp) (by assumption) ?_
            try simp only [Act.put, List.setIfInBounds_toArray, List.set_cons_zero, List.set_cons_succ]
            refine takeW 4 13 (.int .i64 n) (fun _ _ _ _ _ h => h) rfl rfl (by kernel_rfl) (by kernel_rfl) (by kernel_rfl) (by rfl) (fun W' hSw => by (try dsimp only at hSw); go_simp) (by assumption) ?_
            try simp only [Act.put, List.setIfInBounds_toArray, List.set_cons_zero, List.set_cons_succ]
            refine takeW 5 14 (.bool true) (fun _ _ _ _ _ h => h) rfl rfl (by kernel_rfl) (by kernel_rfl) (by kernel_rfl) (by rfl) (fun W' hSw => by (try dsimp only at hSw); go_simp) (by assumption) ?_
            try simp only [Act.put, List.setIfInBounds_toArray, List.set_cons_zero, List.set_cons_succ]
            refine takeW 6 15 (.bool true) (fun _ _ _ _ _ h => h) rfl rfl (by kernel_rfl) (by kernel_rfl) (by kernel_rfl) (by rfl) (fun W' hSw => by (try dsimp only at hSw); go_simp) (by assumption) ?_
            try simp only [Act.put, List.setIfInBounds_toArray, List.set_cons_zero, List.set_cons_succ]
            refine takeW 7 16 (.slice (some ⟨b, off, none⟩) n cap) (fun _ _ _ _ _ h => h) rfl rfl (by kernel_rfl) (by kernel_rfl) (by kernel_rfl) (by rfl) (fun W' hSw => by (try dsimp only at hSw); go_simp) (by assumption) ?_
            try simp only [Act.put, List.setIfInBounds_toArray, List.set_cons_zero, List.set_cons_succ]
            refine takeW 8 17 (.int .i64 k) (fun _ _ _ _ _ h => h) rfl rfl (by kernel_rfl) (by kernel_rfl) (by kernel_rfl) (by rfl) (fun W' hSw => by (try dsimp only at hSw); go_simp) (by assumption) ?_
            try simp only [Act.put, List.setIfInBounds_toArray, List.set_cons_zero, List.set_cons_succ]
            refine takeW 9 18 (.int .i64 r) (fun _ _ _ _ _ h => h) rfl rfl (by kernel_rfl) (by kernel_rfl) (by kernel_rfl) (by rfl) (fun W' hSw => by (try dsimp only at hSw); go_simp) (by assumption) ?_
            try simp only [Act.put, List.setIfInBounds_toArray, List.set_cons_zero, List.set_cons_succ]
            refine takeW 10 19 (.int .i64 p) (fun _ _ _ _ _ h => h) rfl rfl (by kernel_rfl) (by kernel_rfl) (by kernel_rfl) (by rfl) (fun W' hSw => by (try dsimp only at hSw); go_simp) (by assumption) ?_
            try simp only [Act.put, List.setIfInBounds_toArray, List.set_cons_zero, List.set_cons_succ]
            refine takeW 11 20 (.pointer (some ⟨b, off + p * 3, none⟩)) (fun _ _ _ _ _ h => h) rfl rfl (by kernel_rfl) (by kernel_rfl) (by kernel_rfl) (by rfl) (fun W' hSw => by (try dsimp only at hSw); go_simp) (by assumption) ?_
            try simp only [Act.put, List.setIfInBounds_toArray, List.set_cons_zero, List.set_cons_succ]
            refine takeW 12 21 (.agg #[.int .i64 y.c, .int .i64 y.s, .int .i64 y.o]) (fun _ _ _ _ _ h => h) rfl rfl (by kernel_rfl) (by kernel_rfl) (by kernel_rfl) (by rfl) (fun W' hSw => by (try dsimp only at hSw); go_simp) (by assumption) ?_
            try simp only [Act.put, List.setIfInBounds_toArray, List.set_cons_zero, List.set_cons_succ]
            refine takeW 13 22 (.slice (some ⟨b, off, none⟩) n cap) (fun _ _ _ _ _ h => h) rfl rfl (by kernel_rfl) (by kernel_rfl) (by kernel_rfl) (by rfl) (fun W' hSw => by (try dsimp only at hSw); go_simp) (by assumption) ?_
            try simp only [Act.put, List.setIfInBounds_toArray, List.set_cons_zero, List.set_cons_succ]
            refine takeW 14 23 (.int .i64 k) (fun _ _ _ _ _ h => h) rfl rfl (by kernel_rfl) (by kernel_rfl) (by kernel_rfl) (by rfl) (fun W' hSw => by (try dsimp only at hSw); go_simp) (by assumption) ?_
            try simp only [Act.put, List.setIfInBounds_toArray, List.set_cons_zero, List.set_cons_succ]
            refine takeW 15 24 (.pointer (some ⟨b, off + k * 3, none⟩)) (fun _ _ _ _ _ h => h) rfl rfl (by kernel_rfl) (by kernel_rfl) (by kernel_rfl) (by rfl) (fun W' hSw => by (try dsimp only at hSw); go_simp) (by assumption) ?_
            try simp only [Act.put, List.setIfInBounds_toArray, List.set_cons_zero, List.set_cons_succ]
            refine takeW 16 25 (.agg #[.int .i64 x.c, .int .i64 x.s, .int .i64 x.o]) (fun _ _ _ _ _ h => h) rfl rfl (by kernel_rfl) (by kernel_rfl) (by kernel_rfl) (by rfl) (fun W' hSw => by (try dsimp only at hSw); go_simp) (by assumption) ?_
            try simp only [Act.put, List.setIfInBounds_toArray, List.set_cons_zero, List.set_cons_succ]
            refine wpAnyH_ready (rs := [17]) (by kernel_rfl) (by simp) (AllReadyH.cons rfl (fun K hK => ?_) AllReadyH.nil)
            go_simp
            go_at_call 11
            (with_reducible refine (HL1.out _).mono ?_)
            rintro e w5 ⟨rfl, hz⟩
            have HZ := Lib.hid (below_trans (dr wr) hz)
            clear hz
            go_simp
            refine hK.out _ _ (HSF.out _ HZ.out) (fun hHeld => ?_)
            clear hK
            try simp only [Act.put, List.setIfInBounds_toArray, List.set_cons_zero, List.set_cons_succ]
            refine takeW 18 27 (.bool false) (fun _ _ _ _ _ h => h) rfl rfl (by kernel_rfl) (by kernel_rfl) (by kernel_rfl) (by rfl) (fun W' hSw => by (try dsimp only at hSw); go_simp) (by assumption) ?_
            try simp only [Act.put, List.setIfInBounds_toArray, List.set_cons_zero, List.set_cons_succ]
            refine takeW 19 28 (.bool false) (fun _ _ _ _ _ h => h) rfl rfl (by kernel_rfl) (by kernel_rfl) (by kernel_rfl) (by rfl) (fun W' hSw => by (try dsimp only at hSw); go_simp) (by assumption) ?_
            try simp only [Act.put, List.setIfInBounds_toArray, List.set_cons_zero, List.set_cons_succ]
            refine takeW 20 29 (.int .i64 k) (fun _ _ _ _ _ h => h) rfl rfl (by kernel_rfl) (by kernel_rfl) (by kernel_rfl) (by rfl) (fun W' hSw => by (try dsimp only at hSw); go_simp) (by assumption) ?_
            try simp only [Act.put, List.setIfInBounds_toArray, List.set_cons_zero, List.set_cons_succ]
            refine takeW 21 30 (.int .i64 r) (fun _ _ _ _ _ h => h) rfl rfl (by kernel_rfl) (by kernel_rfl) (by kernel_rfl) (by rfl) (fun W' hSw => by (try dsimp only at hSw); go_simp) (by assumption) ?_
            try simp only [Act.put, List.setIfInBounds_toArray, List.set_cons_zero, List.set_cons_succ]
            refine takeW 22 31 (.int .i64 q) (fun _ _ _ _ _ h => h) rfl rfl (by kernel_rfl) (by kernel_rfl) (by kernel_rfl) (by rfl) (fun W' hSw => by (try dsimp only at hSw); go_simp) (by assumption) ?_
            try simp only [Act.put, List.setIfInBounds_toArray, List.set_cons_zero, List.set_cons_succ]
            refine takeW 23 32 (.slice (some ⟨b, off, none⟩) n cap) (fun _ _ _ _ _ h => h) rfl rfl (by kernel_rfl) (by kernel_rfl) (by kernel_rfl) (by rfl) (fun W' hSw => by (try dsimp only at hSw); go_simp) (by assumption) ?_
            try simp only [Act.put, List.setIfInBounds_toArray, List.set_cons_zero, List.set_cons_succ]
            refine takeW 24 33 (.int .i64 n) (fun _ _ _ _ _ h => h) rfl rfl (by kernel_rfl) (by kernel_rfl) (by kernel_rfl) (by rfl) (fun W' hSw => by (try dsimp only at hSw); go_simp) (by assumption) ?_
            try simp only [Act.put, List.setIfInBounds_toArray, List.set_cons_zero, List.set_cons_succ]
            refine takeW 25 34 (.bool false) (fun _ _ _ _ _ h => h) rfl rfl (by kernel_rfl) (by kernel_rfl) (by kernel_rfl) (by rfl) (fun W' hSw => by (try dsimp only at hSw); go_simp) (by assumption) ?_
            try simp only [Act.put, List.setIfInBounds_toArray, List.set_cons_zero, List.set_cons_succ]
            refine takeW 26 35 (.bool false) (fun _ _ _ _ _ h => h) rfl rfl (by kernel_rfl) (by kernel_rfl) (by kernel_rfl) (by rfl) (fun W' hSw => by (try dsimp only at hSw); go_simp) (by assumption) ?_
            try simp only [Act.put, List.setIfInBounds_toArray, List.set_cons_zero, List.set_cons_succ]
            refine skipW 27 36 (fun _ _ _ _ _ h => h) rfl rfl (by kernel_rfl) (by kernel_rfl) (by kernel_rfl) (by rfl) (by assumption) ?_
            try simp only [Act.put, List.setIfInBounds_toArray, List.set_cons_zero, List.set_cons_succ]
            refine skipW 28 37 (fun _ _ _ _ _ h => h) rfl rfl (by kernel_rfl) (by kernel_rfl) (by kernel_rfl) (by rfl) (by assumption) ?_
            try simp only [Act.put, List.setIfInBounds_toArray, List.set_cons_zero, List.set_cons_succ]
            refine skipW 29 38 (fun _ _ _ _ _ h => h) rfl rfl (by kernel_rfl) (by kernel_rfl) (by kernel_rfl) (by rfl) (by assumption) ?_
            try simp only [Act.put, List.setIfInBounds_toArray, List.set_cons_zero, List.set_cons_succ]
            refine skipW 30 39 (fun _ _ _ _ _ h => h) rfl rfl (by kernel_rfl) (by kernel_rfl) (by kernel_rfl) (by rfl) (by assumption) ?_
            try simp only [Act.put, List.setIfInBounds_toArray, List.set_cons_zero, List.set_cons_succ]
            refine skipW 31 40 (fun _ _ _ _ _ h => h) rfl rfl (by kernel_rfl) (by kernel_rfl) (by kernel_rfl) (by rfl) (by assumption) ?_
            try simp only [Act.put, List.setIfInBounds_toArray, List.set_cons_zero, List.set_cons_succ]
            refine skipW 32 41 (fun _ _ _ _ _ h => h) rfl rfl (by kernel_rfl) (by kernel_rfl) (by kernel_rfl) (by rfl) (by assumption) ?_
            try simp only [Act.put, List.setIfInBounds_toArray, List.set_cons_zero, List.set_cons_succ]
            refine skipW 33 42 (fun _ _ _ _ _ h => h) rfl rfl (by kernel_rfl) (by kernel_rfl) (by kernel_rfl) (by rfl) (by assumption) ?_
            try simp only [Act.put, List.setIfInBounds_toArray, List.set_cons_zero, List.set_cons_succ]
            refine skipW 34 43 (fun _ _ _ _ _ h => h) rfl rfl (by kernel_rfl) (by kernel_rfl) (by kernel_rfl) (by rfl) (by assumption) ?_
            try simp only [Act.put, List.setIfInBounds_toArray, List.set_cons_zero, List.set_cons_succ]
            refine skipW 35 44 (fun _ _ _ _ _ h => h) rfl rfl (by kernel_rfl) (by kernel_rfl) (by kernel_rfl) (by rfl) (by assumption) ?_
            try simp only [Act.put, List.setIfInBounds_toArray, List.set_cons_zero, List.set_cons_succ]
            refine skipW 36 45 (fun _ _ _ _ _ h => h) rfl rfl (by kernel_rfl) (by kernel_rfl) (by kernel_rfl) (by rfl) (by assumption) ?_
            try simp only [Act.put, List.setIfInBounds_toArray, List.set_cons_zero, List.set_cons_succ]
            refine skipW 37 46 (fun _ _ _ _ _ h => h) rfl rfl (by kernel_rfl) (by kernel_rfl) (by kernel_rfl) (by rfl) (by assumption) ?_
            try simp only [Act.put, List.setIfInBounds_toArray, List.set_cons_zero, List.set_cons_succ]
            refine takeW 38 47 (.bool false) (fun _ _ _ _ _ h => h) rfl rfl (by kernel_rfl) (by kernel_rfl) (by kernel_rfl) (by rfl) (fun W' hSw => by (try dsimp only at hSw); go_simp) (by assumption) ?_
            try simp only [Act.put, List.setIfInBounds_toArray, List.set_cons_zero, List.set_cons_succ]
            refine takeW 39 48 (.bool false) (fun _ _ _ _ _ h => h) rfl rfl (by kernel_rfl) (by kernel_rfl) (by kernel_rfl) (by rfl) (fun W' hSw => by (try dsimp only at hSw); go_simp) (by assumption) ?_
            try simp only [Act.put, List.setIfInBounds_toArray, List.set_cons_zero, List.set_cons_succ]
            refine wpAnyH_done (by kernel_rfl) ?_ _
            refine NoPanic.normal ?_
            go_wp2_with fail
            go_roundw
            case rel => exact ⟨k + 1, by omega, by go_num, HC.out HM1.out _ (below_trans HR.out.2 HZ.out)⟩
            case measure => simp [Go.RowKit.intOf]; omega
      · have h2 : ¬ q < n := by omega
        have hd1 : decide ((p : Int) < (n : Int)) = false := decide_eq_false (by omega)
        have hd2 : decide ((q : Int) < (n : Int)) = false := decide_eq_false (by omega)
        have HC : Hid (∀ W, Below w.heap.size w W → HpR l (k + 1) w W) := Lib.hid (fun W hb => ⟨fun j hj => by
          by_cases e : j = k
          · subst e; subst hp; subst hq; exact ⟨fun h => absurd h (by rw [HN.out]; exact h1), fun h => absurd h (by rw [HN.out]; exact h2)⟩
          · exact HR.out.1 j (by omega), hb⟩)
        clear HRW hp hq
        go_upto_region 4 with fail
        go_region
        go_wp2_with fail
        go_roundw
        case rel => exact ⟨k + 1, by omega, by go_num, HC.out _ (below_trans HR.out.2 (dr _))⟩
        case measure => simp [Go.RowKit.intOf]; omega
    · obtain rfl : k = n := by omega
      have HRB : Hid (Below w.heap.size w wr) := Lib.hid HR.out.2
      have HB : Hid (allB l = rightB l) := Lib.hid (by
        unfold rightB
        rw [hpR_end (fun j hj => HR.out.1 j (by rw [HN.out] at hj; exact hj)), Bool.and_true])
      go_wp2_with (go_at_call 15; (with_reducible refine (HAL.out _ HRB.out).mono ?_); rintro e w' ⟨rfl, hz⟩; have HZ := Lib.hid (below_trans HRB.out hz); clear hz)
      go_ret
      exact ⟨ret_bool HB.out, HZ.out⟩
end Go.Proofs.Ytdgenemgegpkdaa.Queue
