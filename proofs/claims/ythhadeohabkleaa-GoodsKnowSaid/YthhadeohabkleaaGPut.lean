/-
  Rows put together of three (slices.Grow, Concat), and one more put into a row (put).
-/
import Derived.Test.YthhadeohabkleaaGOwn
import Derived.Lib.SliceRun
namespace Go.Proofs.Ythhadeohabkleaa.Goods
open Go.ChangeShapes Go.WideShapes Go.ChangeAt Go.RowKit Go.Shelf

theorem Box.c3 {b : Nat} {c0 c1 c2 : Value} {w : World} (h : Box b [c0, c1, c2] w) : w.cell? ⟨b, 0, none⟩ = some c0 ∧ w.cell? ⟨b, 1, none⟩ = some c1 ∧ w.cell? ⟨b, 2, none⟩ = some c2 := ⟨(h.2 0 _ rfl).1, (h.2 1 _ rfl).1, (h.2 2 _ rfl).1⟩

set_option maxHeartbeats 1000000 in
set_option maxRecDepth 100000 in
theorem GrowT_nil (n : Nat) (h0 : 1 ≤ n) (hn : n ≤ 100000) (w : World) : Calls Try.prog 56 #[.slice none 0 0, .int .i64 n] w (NewT [] w) := by
  obtain ⟨i0, hi, hz0, hz1, hz2⟩ := info_parts infoT
  have hge := grownCap_ge w n 0 9
  have hcm : grownCap w n 0 9 ≤ maxLen := grownCap_le_maxLen w n 0 9 (by unfold maxLen; omega)
  have hr := fun ty => Lib.run_append_grow_zeros (P := Try.prog) w 22 3 ty 9 i0 (.string ⟨#[]⟩) .i64 .i64 Try.underlying22 Try.underlying3 hi hz0 none 0 0 [] (run_firstCells_none w.drew i0.size 0 0 0) n (by omega) (by omega) (by omega) (by omega) (by rw [hz2]; omega) (growslice_fits (by omega) (by rw [hz2]; omega))
  simp only [Nat.zero_add] at hr
  have hz3 : (Value.cells (.string ⟨#[]⟩)).size = 1 := rfl
  have HO : Hid (∀ (G : Nat), G = grownCap w n 0 9 → OwnT w.heap.size (.slice (some ⟨w.heap.size, 0, none⟩) 0 G) [] (w.drew.alloc (.cells ((([] : List Value).toArray ++ Builtin.zeroCells (Value.cells (.string ⟨#[]⟩)) n) ++ Builtin.zeroCells (Value.cells (.string ⟨#[]⟩)) (G - n)) 9))) := by
    intro G hG
    refine World.ownsRow_made w.drew _ G (Nat.le_refl _) (by rw [hG]; exact hcm) ?_
    simp only [Array.size_append, List.size_toArray, size_zeroCells, hz3, List.length_nil, Nat.zero_add, ← Nat.add_mul]
    congr 1
    omega
  have HB : Hid (∀ o, Below w.heap.size w (w.drew.alloc o)) := Lib.hid fun o => below_trans (dr w) (al w.drew _)
  unfold maxLen at hcm
  generalize hG : grownCap w n 0 9 = G at *
  clear hG
  have hO := HO.out G rfl
  have hb1 := HB.out (.cells ((([] : List Value).toArray ++ Builtin.zeroCells (Value.cells (.string ⟨#[]⟩)) n) ++ Builtin.zeroCells (Value.cells (.string ⟨#[]⟩)) (G - n)) 9)
  generalize (w.drew.alloc (.cells ((([] : List Value).toArray ++ Builtin.zeroCells (Value.cells (.string ⟨#[]⟩)) n) ++ Builtin.zeroCells (Value.cells (.string ⟨#[]⟩)) (G - n)) 9)) = W1 at hO hr hb1
  have HO1 := Lib.hid hO
  have HB1 := Lib.hid hb1
  clear hO hb1 HO HB hi hz0 hz1 hz2 hz3
  have h1 : ¬ ((n : Int) < 0) := by omega
  have h2 : (n : Int) > 0 := by omega
  go_enter Try.func56, Try.ntmps56
  go_wp2_with (at_builtin; refine Lib.wpList_append_run _ rfl _ _ _ _ rfl _ _ rfl rfl _ _ (hr _) ?_)
  go_ret
  exact ⟨_, rfl, HO1.out, HB1.out⟩

set_option maxHeartbeats 2000000 in
set_option maxRecDepth 100000 in
theorem ConcatT_three {g cap : Nat} {va vb vc : Value} {la lb lc : List ByteArray} {w : World} (hg : Box g [va, vb, vc] w) (_hcap : 3 ≤ cap) (ha : TRow w va la) (hb : TRow w vb lb) (hc : TRow w vc lc) (h1 : 1 ≤ lb.length) (hla : la.length ≤ 1000) (hlb : lb.length ≤ 1000) (hlc : lc.length ≤ 1000) : Calls Try.prog 43 #[.slice (some ⟨g, 0, none⟩) 3 cap] w (NewT (la ++ (lb ++ lc)) w) := by
  have hgr := fun W => GrowT_nil (la.length + lb.length + lc.length) (by omega) (by omega) W
  rw [show ((la.length + lb.length + lc.length : Nat) : Int) = (la.length : Int) + lb.length + lc.length by omega] at hgr
  have HG := Lib.hid hgr
  have HX := Lib.hid hg
  have HA := Lib.hid ha
  have HB := Lib.hid hb
  have HC := Lib.hid hc
  obtain ⟨aa, ca, rfl⟩ := ha.slice
  obtain ⟨ab, cb, rfl⟩ := hb.slice
  obtain ⟨ac, cc, rfl⟩ := hc.slice
  clear ha hb hc hgr
  have hs := hg.1
  obtain ⟨x0, x1, x2⟩ := hg.c3
  clear hg
  go_enter Try.func43, Try.ntmps43
  go_wp2
  refine wp_loop_rounds 4 ?_
  rw [rounds_succ]
  go_wp2
  rw [rounds_succ]
  go_wp2
  rw [rounds_succ]
  go_wp2
  rw [rounds_succ]
  go_wp2_with fail
  (with_reducible refine (HG.out _).mono ?_)
  rintro e w1 ⟨v1, rfl, hown, hz⟩
  obtain ⟨a1, c1, rfl⟩ := hown.row.slice
  have HO := Lib.hid hown
  have HZ := Lib.hid hz
  obtain ⟨y0, y1, y2⟩ := (HX.out.below hz).c3
  have hs1 := (HX.out.below hz).1
  clear hown hz x0 x1 x2
  go_wp2_with fail
  refine wp_loop_rounds 4 ?_
  rw [rounds_succ]
  go_wp2_with (at_builtin; refine wpList_append_T rfl _ _ rfl w.heap.size _ [] rfl HO.out _ la rfl (HA.out.below HZ.out) (by simp) (by omega) (by have := HZ.out.size; omega) ?_)
  intro v2 w2 hown2 hbel2
  obtain ⟨a2, c2, e2⟩ := hown2.row.slice
  have HO2 := Lib.hid hown2
  have HZ2 := Lib.hid (HZ.out.trans hbel2)
  obtain ⟨z0, z1, z2⟩ := (HX.out.below HZ2.out).c3
  have hs2 := (HX.out.below HZ2.out).1
  have hs2' := HZ2.out.size
  subst e2
  clear hown2 hbel2 y0 y1 y2
  go_wp2
  rw [rounds_succ]
  go_wp2_with (at_builtin; refine wpList_append_T rfl _ _ rfl w.heap.size _ la rfl HO2.out _ lb rfl (HB.out.below HZ2.out) (by omega) (by omega) (by omega) ?_)
  intro v3 w3 hown3 hbel3
  obtain ⟨a3, c3, e3⟩ := hown3.row.slice
  have HO3 := Lib.hid hown3
  have HZ3 := Lib.hid (HZ2.out.trans hbel3)
  obtain ⟨u0, u1, u2⟩ := (HX.out.below HZ3.out).c3
  have hs3 := (HX.out.below HZ3.out).1
  have hs3' := HZ3.out.size
  subst e3
  clear hown3 hbel3 z0 z1 z2
  go_wp2
  rw [rounds_succ]
  go_wp2_with (at_builtin; refine wpList_append_T rfl _ _ rfl w.heap.size _ (la ++ lb) rfl HO3.out _ lc rfl (HC.out.below HZ3.out) (by rw [List.length_append]; omega) (by omega) (by omega) ?_)
  intro v4 w4 hown4 hbel4
  obtain ⟨a4, c4, e4⟩ := hown4.row.slice
  have HO4 := Lib.hid hown4
  have HZ4 := Lib.hid (HZ3.out.trans hbel4)
  subst e4
  clear hown4 hbel4
  go_wp2
  rw [rounds_succ]
  go_wp2
  go_ret
  exact ⟨_, rfl, HO4.out, HZ4.out⟩

set_option maxHeartbeats 1000000 in
set_option maxRecDepth 100000 in
theorem GrowG_nil (n : Nat) (h0 : 1 ≤ n) (hn : n ≤ 100000) (w : World) : Calls Try.prog 57 #[.slice none 0 0, .int .i64 n] w (NewG [] w) := by
  obtain ⟨i0, hi, hz0, hz1, hz2⟩ := info_parts infoG
  have hge := grownCap_ge w n 0 27
  have hcm : grownCap w n 0 27 ≤ maxLen := grownCap_le_maxLen w n 0 27 (by unfold maxLen; omega)
  have hr := fun ty => Lib.run_append_grow_zeros (P := Try.prog) w 23 3 ty 27 i0 (.agg #[.string ⟨#[]⟩, .string ⟨#[]⟩, .int .i64 0, .int .i64 0, .int .i64 0]) .i64 .i64 Try.underlying23 Try.underlying3 hi hz0 none 0 0 [] (run_firstCells_none w.drew i0.size 0 0 0) n (by omega) (by omega) (by omega) (by omega) (by rw [hz2]; omega) (growslice_fits (by omega) (by rw [hz2]; omega))
  simp only [Nat.zero_add] at hr
  have hz3 : (Value.cells (.agg #[.string ⟨#[]⟩, .string ⟨#[]⟩, .int .i64 0, .int .i64 0, .int .i64 0])).size = 5 := rfl
  have HO : Hid (∀ (G : Nat), G = grownCap w n 0 27 → OwnG w.heap.size (.slice (some ⟨w.heap.size, 0, none⟩) 0 G) [] (w.drew.alloc (.cells ((([] : List Value).toArray ++ Builtin.zeroCells (Value.cells (.agg #[.string ⟨#[]⟩, .string ⟨#[]⟩, .int .i64 0, .int .i64 0, .int .i64 0])) n) ++ Builtin.zeroCells (Value.cells (.agg #[.string ⟨#[]⟩, .string ⟨#[]⟩, .int .i64 0, .int .i64 0, .int .i64 0])) (G - n)) 27))) := by
    intro G hG
    refine World.ownsRow_made w.drew _ G (Nat.le_refl _) (by rw [hG]; exact hcm) ?_
    simp only [Array.size_append, List.size_toArray, size_zeroCells, hz3, List.length_nil, Nat.zero_add, ← Nat.add_mul]
    congr 1
    omega
  have HB : Hid (∀ o, Below w.heap.size w (w.drew.alloc o)) := Lib.hid fun o => below_trans (dr w) (al w.drew _)
  unfold maxLen at hcm
  generalize hG : grownCap w n 0 27 = G at *
  clear hG
  have hO := HO.out G rfl
  have hb1 := HB.out (.cells ((([] : List Value).toArray ++ Builtin.zeroCells (Value.cells (.agg #[.string ⟨#[]⟩, .string ⟨#[]⟩, .int .i64 0, .int .i64 0, .int .i64 0])) n) ++ Builtin.zeroCells (Value.cells (.agg #[.string ⟨#[]⟩, .string ⟨#[]⟩, .int .i64 0, .int .i64 0, .int .i64 0])) (G - n)) 27)
  generalize (w.drew.alloc (.cells ((([] : List Value).toArray ++ Builtin.zeroCells (Value.cells (.agg #[.string ⟨#[]⟩, .string ⟨#[]⟩, .int .i64 0, .int .i64 0, .int .i64 0])) n) ++ Builtin.zeroCells (Value.cells (.agg #[.string ⟨#[]⟩, .string ⟨#[]⟩, .int .i64 0, .int .i64 0, .int .i64 0])) (G - n)) 27)) = W1 at hO hr hb1
  have HO1 := Lib.hid hO
  have HB1 := Lib.hid hb1
  clear hO hb1 HO HB hi hz0 hz1 hz2 hz3
  have h1 : ¬ ((n : Int) < 0) := by omega
  have h2 : (n : Int) > 0 := by omega
  go_enter Try.func57, Try.ntmps57
  go_wp2_with (at_builtin; refine Lib.wpList_append_run _ rfl _ _ _ _ rfl _ _ rfl rfl _ _ (hr _) ?_)
  go_ret
  exact ⟨_, rfl, HO1.out, HB1.out⟩

set_option maxHeartbeats 2000000 in
set_option maxRecDepth 100000 in
theorem ConcatG_three {g cap : Nat} {va vb vc : Value} {la lb lc : List Sb} {w : World} (hg : Box g [va, vb, vc] w) (_hcap : 3 ≤ cap) (ha : GRow w va la) (hb : GRow w vb lb) (hc : GRow w vc lc) (h1 : 1 ≤ lb.length) (hla : la.length ≤ 1000) (hlb : lb.length ≤ 1000) (hlc : lc.length ≤ 1000) : Calls Try.prog 45 #[.slice (some ⟨g, 0, none⟩) 3 cap] w (NewG (la ++ (lb ++ lc)) w) := by
  have hgr := fun W => GrowG_nil (la.length + lb.length + lc.length) (by omega) (by omega) W
  rw [show ((la.length + lb.length + lc.length : Nat) : Int) = (la.length : Int) + lb.length + lc.length by omega] at hgr
  have HG := Lib.hid hgr
  have HX := Lib.hid hg
  have HA := Lib.hid ha
  have HB := Lib.hid hb
  have HC := Lib.hid hc
  obtain ⟨aa, ca, rfl⟩ := ha.slice
  obtain ⟨ab, cb, rfl⟩ := hb.slice
  obtain ⟨ac, cc, rfl⟩ := hc.slice
  clear ha hb hc hgr
  have hs := hg.1
  obtain ⟨x0, x1, x2⟩ := hg.c3
  clear hg
  go_enter Try.func45, Try.ntmps45
  go_wp2
  refine wp_loop_rounds 4 ?_
  rw [rounds_succ]
  go_wp2
  rw [rounds_succ]
  go_wp2
  rw [rounds_succ]
  go_wp2
  rw [rounds_succ]
  go_wp2_with fail
  (with_reducible refine (HG.out _).mono ?_)
  rintro e w1 ⟨v1, rfl, hown, hz⟩
  obtain ⟨a1, c1, rfl⟩ := hown.row.slice
  have HO := Lib.hid hown
  have HZ := Lib.hid hz
  obtain ⟨y0, y1, y2⟩ := (HX.out.below hz).c3
  have hs1 := (HX.out.below hz).1
  clear hown hz x0 x1 x2
  go_wp2_with fail
  refine wp_loop_rounds 4 ?_
  rw [rounds_succ]
  go_wp2_with (at_builtin; refine wpList_append_G rfl _ _ rfl w.heap.size _ [] rfl HO.out _ la rfl (HA.out.below HZ.out) (by simp) (by omega) (by have := HZ.out.size; omega) ?_)
  intro v2 w2 hown2 hbel2
  obtain ⟨a2, c2, e2⟩ := hown2.row.slice
  have HO2 := Lib.hid hown2
  have HZ2 := Lib.hid (HZ.out.trans hbel2)
  obtain ⟨z0, z1, z2⟩ := (HX.out.below HZ2.out).c3
  have hs2 := (HX.out.below HZ2.out).1
  have hs2' := HZ2.out.size
  subst e2
  clear hown2 hbel2 y0 y1 y2
  go_wp2
  rw [rounds_succ]
  go_wp2_with (at_builtin; refine wpList_append_G rfl _ _ rfl w.heap.size _ la rfl HO2.out _ lb rfl (HB.out.below HZ2.out) (by omega) (by omega) (by omega) ?_)
  intro v3 w3 hown3 hbel3
  obtain ⟨a3, c3, e3⟩ := hown3.row.slice
  have HO3 := Lib.hid hown3
  have HZ3 := Lib.hid (HZ2.out.trans hbel3)
  obtain ⟨u0, u1, u2⟩ := (HX.out.below HZ3.out).c3
  have hs3 := (HX.out.below HZ3.out).1
  have hs3' := HZ3.out.size
  subst e3
  clear hown3 hbel3 z0 z1 z2
  go_wp2
  rw [rounds_succ]
  go_wp2_with (at_builtin; refine wpList_append_G rfl _ _ rfl w.heap.size _ (la ++ lb) rfl HO3.out _ lc rfl (HC.out.below HZ3.out) (by rw [List.length_append]; omega) (by omega) (by omega) ?_)
  intro v4 w4 hown4 hbel4
  obtain ⟨a4, c4, e4⟩ := hown4.row.slice
  have HO4 := Lib.hid hown4
  have HZ4 := Lib.hid (HZ3.out.trans hbel4)
  subst e4
  clear hown4 hbel4
  go_wp2
  rw [rounds_succ]
  go_wp2
  go_ret
  exact ⟨_, rfl, HO4.out, HZ4.out⟩

/-- One more, behind those of which p holds. -/
def putL {α : Type} (p : α → Bool) (x : α) (l : List α) : List α := l.takeWhile p ++ x :: l.dropWhile p
theorem put_at {α : Type} {p : α → Bool} : ∀ {l : List α} {k : Nat}, k ≤ l.length → (l.take k).all p = true → (∀ h : k < l.length, p l[k] = false) → l.takeWhile p = l.take k ∧ l.dropWhile p = l.drop k
  | [], k, hk, _, _ => by
    obtain rfl : k = 0 := by simpa using hk
    exact ⟨rfl, rfl⟩
  | y :: l, 0, _, _, h => by
    have := h (by simp)
    simp at this
    simp [this]
  | y :: l, k + 1, hk, ha, h => by
    simp only [List.take_succ_cons, List.all_cons, Bool.and_eq_true] at ha
    obtain ⟨e1, e2⟩ := put_at (l := l) (k := k) (by simpa using hk) ha.2 (fun hl => by have := h (by simpa using hl); simpa using this)
    simp [ha.1, e1, e2]
theorem put_eq {α : Type} {p : α → Bool} {l : List α} {k : Nat} (x : α) (hk : k ≤ l.length) (ha : (l.take k).all p = true) (h : ∀ h : k < l.length, p l[k] = false) : putL p x l = l.take k ++ x :: l.drop k := by
  unfold putL
  rw [(put_at hk ha h).1, (put_at hk ha h).2]
theorem put_length {α : Type} (p : α → Bool) (x : α) (l : List α) : (putL p x l).length = l.length + 1 := by
  have : (l.takeWhile p).length + (l.dropWhile p).length = l.length := by rw [← List.length_append, List.takeWhile_append_dropWhile]
  unfold putL
  simp only [List.length_append, List.length_cons]
  omega
theorem put_mem {α : Type} {p : α → Bool} {x y : α} {l : List α} : y ∈ putL p x l ↔ y = x ∨ y ∈ l := by
  have e : y ∈ l ↔ y ∈ l.takeWhile p ∨ y ∈ l.dropWhile p := by
    rw [← List.mem_append, List.takeWhile_append_dropWhile]
  unfold putL
  rw [List.mem_append, List.mem_cons, e]
  constructor
  · rintro (h | h | h)
    · exact .inr (.inl h)
    · exact .inl h
    · exact .inr (.inr h)
  · rintro (h | h | h)
    · exact .inr (.inl h)
    · exact .inl h
    · exact .inr (.inr h)
def PutR {α : Type} (p : α → Bool) (l : List α) (I : World → Prop) (k : Nat) (w W : World) : Prop := (l.take k).all p = true ∧ Below w.heap.size w W ∧ I W

theorem TRow.drop {w : World} {b off cap k : Nat} {l : List ByteArray} (h : TRow w (.slice (some ⟨b, off, none⟩) l.length cap) l) (hk : k < l.length) : TRow w (.slice (some ⟨b, off + k, none⟩) (l.length - k) (cap - k)) (l.drop k) := by
  obtain ⟨a', cap', e, h1, h2, h3⟩ := h
  cases e
  refine ⟨_, cap - k, by rw [List.length_drop], by rw [List.length_drop]; omega, by omega, fun h0 => ?_⟩
  obtain ⟨b, off, ea, hbl, hc⟩ := h3 (by omega)
  cases ea
  refine ⟨b, off + k, rfl, hbl, fun j hj => ?_⟩
  rw [List.length_drop] at hj
  have := hc (k + j) (by omega)
  rw [List.getElem_drop]
  rwa [← Nat.add_assoc] at this
theorem TRow.one (W : World) (x : ByteArray) : TRow (W.alloc (.cells #[.string x] 9)) (.slice (some ⟨W.heap.size, 0, none⟩) 1 1) [x] :=
  OwnT.row (B := W.heap.size) (World.ownsRow_lit W #[.string x] 1 (Nat.le_refl _) (by decide) rfl)
theorem TRow.naught {w : World} {n c : Nat} {l : List ByteArray} (h : TRow w (.slice none n c) l) : l = [] ∧ n = 0 := by
  obtain ⟨a', c', e, _, _, h3⟩ := h
  cases e
  cases l with
  | nil => exact ⟨rfl, rfl⟩
  | cons x r => obtain ⟨b, off, e, _⟩ := h3 (by simp); cases e
theorem TRow.void {w : World} (a : Option Addr) {c : Nat} (hc : c ≤ 9223372036854775807) : TRow w (.slice a 0 c) [] := ⟨a, c, rfl, Nat.zero_le _, hc, fun h => absurd h (Nat.lt_irrefl _)⟩
/-- What is put together in put. -/
theorem cat_T {w W : World} {l : List ByteArray} {k : Nat} {s1 s3 : Value} (x : ByteArray) (hw : Below w.heap.size w W) (h1 : TRow W s1 (l.take k)) (h3 : TRow W s3 (l.drop k)) (hl : l.length ≤ 1000) :
    Calls Try.prog 43 #[.slice (some ⟨W.heap.size + 1, 0, none⟩) 3 3] (((W.alloc (.cells #[.string x] 9)).alloc (.cells #[s1, .slice (some ⟨W.heap.size, 0, none⟩) 1 1, s3] 22)).drew) (fun e w' => ∃ v, e = .returned v ∧ OwnT w.heap.size v (l.take k ++ x :: l.drop k) w' ∧ Below w.heap.size w w' ∧ Below W.heap.size W w') := by
  have b1 := al W (.cells #[.string x] 9)
  have b2 := al (W.alloc (.cells #[.string x] 9)) (.cells #[s1, .slice (some ⟨W.heap.size, 0, none⟩) 1 1, s3] 22)
  have b3 := dr ((W.alloc (.cells #[.string x] 9)).alloc (.cells #[s1, .slice (some ⟨W.heap.size, 0, none⟩) 1 1, s3] 22))
  have b23 := below_trans b2 b3
  have b123 := below_trans b1 b23
  have hbx := (Box.made (W.alloc (.cells #[.string x] 9)) [s1, .slice (some ⟨W.heap.size, 0, none⟩) 1 1, s3] 22).below b3
  rw [World.size_alloc] at hbx
  refine (ConcatT_three hbx (Nat.le_refl _) (h1.below b123) ((TRow.one W x).below b23) (h3.below b123) (Nat.le_refl _) (by rw [List.length_take]; omega) (by simp) (by rw [List.length_drop]; omega)).mono ?_
  rintro e w3 ⟨v, rfl, ho, hz⟩
  have hs := hw.size
  have hs2 := b123.size
  exact ⟨v, rfl, ho.mono (by omega), below_trans hw (below_trans b123 hz), below_trans b123 hz⟩

set_option maxRecDepth 100000 in
set_option maxHeartbeats 2000000 in
theorem putT_any {v : Value} {l : List ByteArray} {w : World} (n : Nat) (he : Enters n) (g : Nat) (p : ByteArray → Bool) (hp : ∀ x ∈ l, ∀ W, Below w.heap.size w W → Calls Try.prog n #[.string x, .pointer (some ⟨g, 0, none⟩)] W (BoolB (p x) W)) (h : TRow w v l) (hl : l.length ≤ 1000) (x : ByteArray) : Calls Try.prog 25 #[v, .string x, .func (.func n) #[] #[.pointer (some ⟨g, 0, none⟩)]] w (NewT (putL p x l) w) := by
  have H := Lib.hid h
  have HP := Lib.hid hp
  obtain ⟨a, cap, rfl⟩ := h.slice
  obtain ⟨hlc, hcap⟩ := h.cap.2
  unfold Go.Proofs.Ythhadeohabkleaa.Goods.Enters at he
  clear h hp
  go_enter Try.func25, Try.ntmps25
  go_wp2
  go_loopw [7] (fun i wr => ∃ k : Nat, k ≤ l.length ∧ i = .int .i64 k ∧ PutR p l (fun _ => True) k w wr) (fun i _ => l.length - (Go.RowKit.intOf i).toNat)
  case atStart => exact ⟨0, Nat.zero_le _, rfl, by simp, Below.refl _ _, trivial⟩
  case round =>
    obtain ⟨k, hk, rfl, hr⟩ := hrel
    have HR := Lib.hid hr
    clear hr
    have c1 : (0 : Int) ≤ k := by omega
    have c2 : (k : Int) ≤ l.length := by omega
    have c3 : (k : Int) ≤ cap := by omega
    have c4 : (l.length : Int) ≤ cap := by omega
    by_cases hlt : k < l.length
    · obtain ⟨b, off, rfl, _, _, hb, k0⟩ := (H.out.below HR.out.2.1).at hlt
      have hn := HP.out l[k] (List.getElem_mem hlt) wr HR.out.2.1
      have HAT := Lib.hid (all_take (p := p) hlt)
      cases hm : p l[k] with
      | true =>
        rw [hm] at hn HAT
        have HN := Lib.hid hn
        clear hm hn
        go_wp2_with fail
        (with_reducible refine HN.out.mono ?_)
        rintro e w' ⟨rfl, hz⟩
        have HZ := Lib.hid (below_trans HR.out.2.1 hz)
        
        clear hz
        go_wp2_with fail
        go_roundw
        case rel => exact ⟨k + 1, by omega, by go_num, by rw [HAT.out, HR.out.1]; rfl, HZ.out, trivial⟩
        case measure => simp [Go.RowKit.intOf]; omega
      | false =>
        have HE := Lib.hid (put_eq x hk HR.out.1 (fun _ => hm))
        rw [hm] at hn
        have HN := Lib.hid hn
        clear hm hn HAT
        have c5 : (cap = k) = False := eq_false (by omega)
        go_wp2_with fail
        (with_reducible refine HN.out.mono ?_)
        rintro e w' ⟨rfl, hz⟩
        have HZ := Lib.hid (below_trans HR.out.2.1 hz)
        
        have HK := Lib.hid (cat_T x HZ.out ((H.out.below HZ.out).take (Nat.le_of_lt hlt)) ((H.out.below HZ.out).drop hlt) hl)
        
        clear hz
        go_wp2_with fail
        go_region_held3 (fun w' => True) (trivial)
          (first
            | (go_at_call 43; (with_reducible refine HK.out.mono ?_); rintro e w5 ⟨v5, rfl, ho5, hz5, hw5⟩;  obtain ⟨a5, n5, c5, rfl⟩ : ∃ a n c, v5 = .slice a n c := (by obtain ⟨a', c', e⟩ := ho5.row.slice; exact ⟨a', _, c', e⟩); have HO5 := Lib.hid ho5; have HZ5 := Lib.hid hz5; clear ho5 hz5 hw5)
            | fail)
        have ho6 := HO5.out
        rw [← HE.out] at ho6
        have HO6 := Lib.hid ho6
        clear ho6
        go_wp2_with fail
        go_ret
        exact ⟨_, rfl, HO6.out, HZ5.out⟩
    · obtain rfl : k = l.length := by omega
      have HE := Lib.hid (put_eq x hk HR.out.1 (fun h => by omega))
      have hd : l.drop l.length = [] := List.drop_length
      have ht : l.take l.length = l := List.take_length
      have hpe := HE.out
      rw [ht, hd] at hpe
      have HPE := Lib.hid hpe
      clear hpe
      cases a with
      | none =>
        obtain ⟨rfl, _⟩ := H.out.naught
        have HK := Lib.hid (cat_T (l := []) (k := 0) x HR.out.2.1 (TRow.void none (c := cap) hcap) (TRow.void none (c := cap) hcap) (by simp))
        
        go_wp2_with fail
        go_region_held3 (fun w' => True) (trivial)
          (first
            | (go_at_call 43; (with_reducible refine HK.out.mono ?_); rintro e w5 ⟨v5, rfl, ho5, hz5, hw5⟩;  obtain ⟨a5, n5, c5, rfl⟩ : ∃ a n c, v5 = .slice a n c := (by obtain ⟨a', c', e⟩ := ho5.row.slice; exact ⟨a', _, c', e⟩); have HO5 := Lib.hid ho5; have HZ5 := Lib.hid hz5; clear ho5 hz5 hw5)
            | fail)
        go_wp2_with fail
        go_ret
        exact ⟨_, rfl, HO5.out, HZ5.out⟩
      | some ad =>
        obtain ⟨b, off, sp⟩ := ad
        have h1 : TRow wr (.slice (some ⟨b, off, sp⟩) l.length cap) (l.take l.length) := by rw [ht]; exact H.out.below HR.out.2.1
        have h3 : ∀ a' c', c' ≤ 9223372036854775807 → TRow wr (.slice a' 0 c') (l.drop l.length) := fun a' c' hc' => by rw [hd]; exact TRow.void a' hc'
        have hk := fun a' c' hc' => cat_T x HR.out.2.1 h1 (h3 a' c' hc') hl
        rw [ht, hd] at hk
        have HK := Lib.hid hk
        clear h1 h3 hk
        
        clear hd ht
        by_cases hcl : cap = l.length
        · subst hcl
          go_wp2_with fail
          go_region_held3 (fun w' => True) (trivial)
            (first
              | (go_at_call 43; (with_reducible refine (HK.out _ _ (by omega)).mono ?_); rintro e w5 ⟨v5, rfl, ho5, hz5, hw5⟩;  obtain ⟨a5, n5, c5, rfl⟩ : ∃ a n c, v5 = .slice a n c := (by obtain ⟨a', c', e⟩ := ho5.row.slice; exact ⟨a', _, c', e⟩); have HO5 := Lib.hid ho5; have HZ5 := Lib.hid hz5; clear ho5 hz5 hw5)
              | fail)
          have ho6 := HO5.out
          rw [← HPE.out] at ho6
          have HO6 := Lib.hid ho6
          clear ho6
          go_wp2_with fail
          go_ret
          exact ⟨_, rfl, HO6.out, HZ5.out⟩
        · have c5 : (cap = l.length) = False := eq_false hcl
          go_wp2_with fail
          go_region_held3 (fun w' => True) (trivial)
            (first
              | (go_at_call 43; (with_reducible refine (HK.out _ _ (by omega)).mono ?_); rintro e w5 ⟨v5, rfl, ho5, hz5, hw5⟩;  obtain ⟨a5, n5, c5, rfl⟩ : ∃ a n c, v5 = .slice a n c := (by obtain ⟨a', c', e⟩ := ho5.row.slice; exact ⟨a', _, c', e⟩); have HO5 := Lib.hid ho5; have HZ5 := Lib.hid hz5; clear ho5 hz5 hw5)
              | fail)
          have ho6 := HO5.out
          rw [← HPE.out] at ho6
          have HO6 := Lib.hid ho6
          clear ho6
          go_wp2_with fail
          go_ret
          exact ⟨_, rfl, HO6.out, HZ5.out⟩

theorem GRow.drop {w : World} {b off cap k : Nat} {l : List Sb} (h : GRow w (.slice (some ⟨b, off, none⟩) l.length cap) l) (hk : k < l.length) : GRow w (.slice (some ⟨b, off + k * 5, none⟩) (l.length - k) (cap - k)) (l.drop k) := by
  obtain ⟨a', cap', e, h1, h2, h3⟩ := h
  cases e
  refine ⟨_, cap - k, by rw [List.length_drop], by rw [List.length_drop]; omega, by omega, fun h0 => ?_⟩
  obtain ⟨b, off, ea, hbl, hc⟩ := h3 (by omega)
  cases ea
  refine ⟨b, off + k * 5, rfl, hbl, fun j hj => ?_⟩
  rw [List.length_drop] at hj
  have := hc (k + j) (by omega)
  rw [List.getElem_drop]
  rwa [Nat.add_mul, ← Nat.add_assoc] at this
theorem GRow.one (W : World) (x : Sb) : GRow (W.alloc (.cells #[.string x.f, .string x.t, .int .i64 x.r, .int .i64 x.n, .int .i64 x.d] 27)) (.slice (some ⟨W.heap.size, 0, none⟩) 1 1) [x] :=
  OwnG.row (B := W.heap.size) (World.ownsRow_lit W #[.string x.f, .string x.t, .int .i64 x.r, .int .i64 x.n, .int .i64 x.d] 1 (Nat.le_refl _) (by decide) rfl)
theorem GRow.naught {w : World} {n c : Nat} {l : List Sb} (h : GRow w (.slice none n c) l) : l = [] ∧ n = 0 := by
  obtain ⟨a', c', e, _, _, h3⟩ := h
  cases e
  cases l with
  | nil => exact ⟨rfl, rfl⟩
  | cons x r => obtain ⟨b, off, e, _⟩ := h3 (by simp); cases e
theorem GRow.void {w : World} (a : Option Addr) {c : Nat} (hc : c ≤ 9223372036854775807) : GRow w (.slice a 0 c) [] := ⟨a, c, rfl, Nat.zero_le _, hc, fun h => absurd h (Nat.lt_irrefl _)⟩
/-- What is put together in put. -/
theorem cat_G {w W : World} {l : List Sb} {k : Nat} {s1 s3 : Value} (x : Sb) (hw : Below w.heap.size w W) (h1 : GRow W s1 (l.take k)) (h3 : GRow W s3 (l.drop k)) (hl : l.length ≤ 1000) :
    Calls Try.prog 45 #[.slice (some ⟨W.heap.size + 1, 0, none⟩) 3 3] (((W.alloc (.cells #[.string x.f, .string x.t, .int .i64 x.r, .int .i64 x.n, .int .i64 x.d] 27)).alloc (.cells #[s1, .slice (some ⟨W.heap.size, 0, none⟩) 1 1, s3] 23)).drew) (fun e w' => ∃ v, e = .returned v ∧ OwnG w.heap.size v (l.take k ++ x :: l.drop k) w' ∧ Below w.heap.size w w' ∧ Below W.heap.size W w') := by
  have b1 := al W (.cells #[.string x.f, .string x.t, .int .i64 x.r, .int .i64 x.n, .int .i64 x.d] 27)
  have b2 := al (W.alloc (.cells #[.string x.f, .string x.t, .int .i64 x.r, .int .i64 x.n, .int .i64 x.d] 27)) (.cells #[s1, .slice (some ⟨W.heap.size, 0, none⟩) 1 1, s3] 23)
  have b3 := dr ((W.alloc (.cells #[.string x.f, .string x.t, .int .i64 x.r, .int .i64 x.n, .int .i64 x.d] 27)).alloc (.cells #[s1, .slice (some ⟨W.heap.size, 0, none⟩) 1 1, s3] 23))
  have b23 := below_trans b2 b3
  have b123 := below_trans b1 b23
  have hbx := (Box.made (W.alloc (.cells #[.string x.f, .string x.t, .int .i64 x.r, .int .i64 x.n, .int .i64 x.d] 27)) [s1, .slice (some ⟨W.heap.size, 0, none⟩) 1 1, s3] 23).below b3
  rw [World.size_alloc] at hbx
  refine (ConcatG_three hbx (Nat.le_refl _) (h1.below b123) ((GRow.one W x).below b23) (h3.below b123) (Nat.le_refl _) (by rw [List.length_take]; omega) (by simp) (by rw [List.length_drop]; omega)).mono ?_
  rintro e w3 ⟨v, rfl, ho, hz⟩
  have hs := hw.size
  have hs2 := b123.size
  exact ⟨v, rfl, ho.mono (by omega), below_trans hw (below_trans b123 hz), below_trans b123 hz⟩

set_option maxRecDepth 100000 in
set_option maxHeartbeats 2000000 in
theorem putG_any {v : Value} {l : List Sb} {w : World} (n : Nat) (he : Enters n) (g : Nat) (p : Sb → Bool) (hp : ∀ x ∈ l, ∀ W, Below w.heap.size w W → Calls Try.prog n #[sv x, .pointer (some ⟨g, 0, none⟩)] W (BoolB (p x) W)) (h : GRow w v l) (hl : l.length ≤ 1000) (x : Sb) : Calls Try.prog 34 #[v, sv x, .func (.func n) #[] #[.pointer (some ⟨g, 0, none⟩)]] w (NewG (putL p x l) w) := by
  have H := Lib.hid h
  have HP := Lib.hid hp
  obtain ⟨a, cap, rfl⟩ := h.slice
  obtain ⟨hlc, hcap⟩ := h.cap.2
  unfold Go.Proofs.Ythhadeohabkleaa.Goods.Enters at he
  unfold sv
  clear h hp
  go_enter Try.func34, Try.ntmps34
  go_wp2
  go_loopw [7] (fun i wr => ∃ k : Nat, k ≤ l.length ∧ i = .int .i64 k ∧ PutR p l (fun W => Box w.heap.size [.string x.f, .string x.t, .int .i64 x.r, .int .i64 x.n, .int .i64 x.d] W) k w wr) (fun i _ => l.length - (Go.RowKit.intOf i).toNat)
  case atStart => exact ⟨0, Nat.zero_le _, rfl, by simp, al _ _, Box.made w [.string x.f, .string x.t, .int .i64 x.r, .int .i64 x.n, .int .i64 x.d] 27⟩
  case round =>
    obtain ⟨k, hk, rfl, hr⟩ := hrel
    have HR := Lib.hid hr
    clear hr
    have c1 : (0 : Int) ≤ k := by omega
    have c2 : (k : Int) ≤ l.length := by omega
    have c3 : (k : Int) ≤ cap := by omega
    have c4 : (l.length : Int) ≤ cap := by omega
    by_cases hlt : k < l.length
    · obtain ⟨b, off, rfl, _, _, hb, k0, k1, k2, k3, k4⟩ := (H.out.below HR.out.2.1).at hlt
      have hn := HP.out l[k] (List.getElem_mem hlt) wr HR.out.2.1
      unfold sv at hn
      have HAT := Lib.hid (all_take (p := p) hlt)
      cases hm : p l[k] with
      | true =>
        rw [hm] at hn HAT
        have HN := Lib.hid hn
        clear hm hn
        go_wp2_with fail
        (with_reducible refine HN.out.mono ?_)
        rintro e w' ⟨rfl, hz⟩
        have HZ := Lib.hid (below_trans HR.out.2.1 hz)
        have HI := Lib.hid (HR.out.2.2.below hz)
        clear hz
        go_wp2_with fail
        go_roundw
        case rel => exact ⟨k + 1, by omega, by go_num, by rw [HAT.out, HR.out.1]; rfl, HZ.out, HI.out⟩
        case measure => simp [Go.RowKit.intOf]; omega
      | false =>
        have HE := Lib.hid (put_eq x hk HR.out.1 (fun _ => hm))
        rw [hm] at hn
        have HN := Lib.hid hn
        clear hm hn HAT
        have c5 : (cap = k) = False := eq_false (by omega)
        go_wp2_with fail
        (with_reducible refine HN.out.mono ?_)
        rintro e w' ⟨rfl, hz⟩
        have HZ := Lib.hid (below_trans HR.out.2.1 hz)
        have HI := Lib.hid (HR.out.2.2.below hz)
        have HK := Lib.hid (cat_G x HZ.out ((H.out.below HZ.out).take (Nat.le_of_lt hlt)) ((H.out.below HZ.out).drop hlt) hl)
        obtain ⟨x0, x1, x2, x3, x4⟩ := HI.out.c5
        have hsx := HI.out.1
        clear hz
        go_wp2_with fail
        go_region_held3 (fun w' => w'.cell? ⟨w.heap.size, 0, none⟩ = some (.string x.f) ∧ w'.cell? ⟨w.heap.size, 1, none⟩ = some (.string x.t) ∧ w'.cell? ⟨w.heap.size, 2, none⟩ = some (.int .i64 x.r) ∧ w'.cell? ⟨w.heap.size, 3, none⟩ = some (.int .i64 x.n) ∧ w'.cell? ⟨w.heap.size, 4, none⟩ = some (.int .i64 x.d)) (first | go_keep | exact ⟨u0, u1, u2, u3, u4⟩ | fail)
          (first
            | (go_at_call 45; (with_reducible refine HK.out.mono ?_); rintro e w5 ⟨v5, rfl, ho5, hz5, hw5⟩; obtain ⟨u0, u1, u2, u3, u4⟩ := (HI.out.below hw5).c5;  obtain ⟨a5, n5, c5, rfl⟩ : ∃ a n c, v5 = .slice a n c := (by obtain ⟨a', c', e⟩ := ho5.row.slice; exact ⟨a', _, c', e⟩); have HO5 := Lib.hid ho5; have HZ5 := Lib.hid hz5; clear ho5 hz5 hw5)
            | fail)
        have ho6 := HO5.out
        rw [← HE.out] at ho6
        have HO6 := Lib.hid ho6
        clear ho6
        go_wp2_with fail
        go_ret
        exact ⟨_, rfl, HO6.out, HZ5.out⟩
    · obtain rfl : k = l.length := by omega
      have HE := Lib.hid (put_eq x hk HR.out.1 (fun h => by omega))
      have hd : l.drop l.length = [] := List.drop_length
      have ht : l.take l.length = l := List.take_length
      have hpe := HE.out
      rw [ht, hd] at hpe
      have HPE := Lib.hid hpe
      clear hpe
      cases a with
      | none =>
        obtain ⟨rfl, _⟩ := H.out.naught
        have HK := Lib.hid (cat_G (l := []) (k := 0) x HR.out.2.1 (GRow.void none (c := cap) hcap) (GRow.void none (c := cap) hcap) (by simp))
        obtain ⟨x0, x1, x2, x3, x4⟩ := HR.out.2.2.c5
        have hsx := HR.out.2.2.1
        go_wp2_with fail
        go_region_held3 (fun w' => w'.cell? ⟨w.heap.size, 0, none⟩ = some (.string x.f) ∧ w'.cell? ⟨w.heap.size, 1, none⟩ = some (.string x.t) ∧ w'.cell? ⟨w.heap.size, 2, none⟩ = some (.int .i64 x.r) ∧ w'.cell? ⟨w.heap.size, 3, none⟩ = some (.int .i64 x.n) ∧ w'.cell? ⟨w.heap.size, 4, none⟩ = some (.int .i64 x.d)) (first | go_keep | exact ⟨u0, u1, u2, u3, u4⟩ | fail)
          (first
            | (go_at_call 45; (with_reducible refine HK.out.mono ?_); rintro e w5 ⟨v5, rfl, ho5, hz5, hw5⟩; obtain ⟨u0, u1, u2, u3, u4⟩ := (HR.out.2.2.below hw5).c5;  obtain ⟨a5, n5, c5, rfl⟩ : ∃ a n c, v5 = .slice a n c := (by obtain ⟨a', c', e⟩ := ho5.row.slice; exact ⟨a', _, c', e⟩); have HO5 := Lib.hid ho5; have HZ5 := Lib.hid hz5; clear ho5 hz5 hw5)
            | fail)
        go_wp2_with fail
        go_ret
        exact ⟨_, rfl, HO5.out, HZ5.out⟩
      | some ad =>
        obtain ⟨b, off, sp⟩ := ad
        have h1 : GRow wr (.slice (some ⟨b, off, sp⟩) l.length cap) (l.take l.length) := by rw [ht]; exact H.out.below HR.out.2.1
        have h3 : ∀ a' c', c' ≤ 9223372036854775807 → GRow wr (.slice a' 0 c') (l.drop l.length) := fun a' c' hc' => by rw [hd]; exact GRow.void a' hc'
        have hk := fun a' c' hc' => cat_G x HR.out.2.1 h1 (h3 a' c' hc') hl
        rw [ht, hd] at hk
        have HK := Lib.hid hk
        clear h1 h3 hk
        obtain ⟨x0, x1, x2, x3, x4⟩ := HR.out.2.2.c5
        have hsx := HR.out.2.2.1
        clear hd ht
        by_cases hcl : cap = l.length
        · subst hcl
          go_wp2_with fail
          go_region_held3 (fun w' => w'.cell? ⟨w.heap.size, 0, none⟩ = some (.string x.f) ∧ w'.cell? ⟨w.heap.size, 1, none⟩ = some (.string x.t) ∧ w'.cell? ⟨w.heap.size, 2, none⟩ = some (.int .i64 x.r) ∧ w'.cell? ⟨w.heap.size, 3, none⟩ = some (.int .i64 x.n) ∧ w'.cell? ⟨w.heap.size, 4, none⟩ = some (.int .i64 x.d)) (first | go_keep | exact ⟨u0, u1, u2, u3, u4⟩ | fail)
            (first
              | (go_at_call 45; (with_reducible refine (HK.out _ _ (by omega)).mono ?_); rintro e w5 ⟨v5, rfl, ho5, hz5, hw5⟩; obtain ⟨u0, u1, u2, u3, u4⟩ := (HR.out.2.2.below hw5).c5;  obtain ⟨a5, n5, c5, rfl⟩ : ∃ a n c, v5 = .slice a n c := (by obtain ⟨a', c', e⟩ := ho5.row.slice; exact ⟨a', _, c', e⟩); have HO5 := Lib.hid ho5; have HZ5 := Lib.hid hz5; clear ho5 hz5 hw5)
              | fail)
          have ho6 := HO5.out
          rw [← HPE.out] at ho6
          have HO6 := Lib.hid ho6
          clear ho6
          go_wp2_with fail
          go_ret
          exact ⟨_, rfl, HO6.out, HZ5.out⟩
        · have c5 : (cap = l.length) = False := eq_false hcl
          go_wp2_with fail
          go_region_held3 (fun w' => w'.cell? ⟨w.heap.size, 0, none⟩ = some (.string x.f) ∧ w'.cell? ⟨w.heap.size, 1, none⟩ = some (.string x.t) ∧ w'.cell? ⟨w.heap.size, 2, none⟩ = some (.int .i64 x.r) ∧ w'.cell? ⟨w.heap.size, 3, none⟩ = some (.int .i64 x.n) ∧ w'.cell? ⟨w.heap.size, 4, none⟩ = some (.int .i64 x.d)) (first | go_keep | exact ⟨u0, u1, u2, u3, u4⟩ | fail)
            (first
              | (go_at_call 45; (with_reducible refine (HK.out _ _ (by omega)).mono ?_); rintro e w5 ⟨v5, rfl, ho5, hz5, hw5⟩; obtain ⟨u0, u1, u2, u3, u4⟩ := (HR.out.2.2.below hw5).c5;  obtain ⟨a5, n5, c5, rfl⟩ : ∃ a n c, v5 = .slice a n c := (by obtain ⟨a', c', e⟩ := ho5.row.slice; exact ⟨a', _, c', e⟩); have HO5 := Lib.hid ho5; have HZ5 := Lib.hid hz5; clear ho5 hz5 hw5)
              | fail)
          have ho6 := HO5.out
          rw [← HPE.out] at ho6
          have HO6 := Lib.hid ho6
          clear ho6
          go_wp2_with fail
          go_ret
          exact ⟨_, rfl, HO6.out, HZ5.out⟩
end Go.Proofs.Ythhadeohabkleaa.Goods
