/-
  Parcels copied (slices.Clone), and put together of several rows (together), behind a first one that is full or the call's own.
-/
import Derived.Test.YtkfjhfneagjejaaNRight
import Derived.Lib.SliceRun
import Derived.Lib.AppendZerosOnto
import Derived.Maps.AppendAt
namespace Go.Proofs.Ytkfjhfneagjejaa.Net
open Go.ChangeShapes Go.WideShapes Go.ChangeAt Go.RowKit Go.Shelf Go.Lib
open Go.Proofs.Ytkfjhfneagjejaa.Queue (Box al dr below_trans ret_bool BoolB)

set_option maxHeartbeats 1000000 in
set_option maxRecDepth 100000 in
theorem Clone_any {v : Value} {l : List Pc} {w : World} (h : NRow w v l) (hl : l.length ≤ 1000) : Calls Try.prog 18 #[v] w (NewN l w) := by
  have H := Lib.hid h
  obtain ⟨a, cap, rfl⟩ := h.slice
  cases a with
  | none =>
    have h0 : l = [] := h.no
    subst h0
    have hnil : (binOp .eql 22 (.slice none 0 cap) (.slice none 0 0)).run Try.prog w = .ok (.bool true) w := run_eql_slice_nil w 22 26 _ _ _ Try.underlying22
    clear h
    go_enter Try.func18, Try.ntmps18
    go_wp2
    go_ret
    exact ⟨_, rfl, OwnN.nil _ _, Below.refl _ _⟩
  | some ad =>
    have hb := al w (.cells #[] 26)
    have HB := Lib.hid hb
    have HE := Lib.hid (OwnN.empty w (Nat.le_refl _))
    have HN := Lib.hid (H.out.below hb)
    have hnil : (binOp .eql 22 (.slice (some ad) l.length cap) (.slice none 0 0)).run Try.prog w = .ok (.bool false) w := run_eql_slice_nil w 22 26 _ _ _ Try.underlying22
    clear h hb
    go_enter Try.func18, Try.ntmps18
    go_wp2_with (at_builtin; refine wpList_append_N rfl _ _ rfl w.heap.size _ [] rfl HE.out _ l rfl HN.out (by simp) (by omega) (by simp) ?_)
    intro v' w1 hown hbel _
    have HR := Lib.hid (And.intro hown (HB.out.trans hbel))
    clear hown hbel
    go_wp2
    go_ret
    exact ⟨_, rfl, HR.out.1, HR.out.2⟩

/-- A row that is full, or the call's own. -/
def Fst (B : Nat) (v : Value) (l : List Pc) (w : World) : Prop := NRow w v l ∧ ((∃ a, v = .slice a l.length l.length) ∨ OwnN B v l w)
/-- It lies at B or behind it. -/
def Far (B : Nat) (v : Value) : Prop := ∀ a n c, v = .slice (some a) n c → B ≤ a.block
theorem OwnN.far {B B0 : Nat} {v : Value} {l : List Pc} {w : World} (h : OwnN B v l w) (hB : B0 ≤ B) : Far B0 v := fun a n c e => Nat.le_trans hB (World.ownsRow.lt h a.block (by rw [e]; rfl)).1
theorem OwnN.fst {B : Nat} {v : Value} {l : List Pc} {w : World} (h : OwnN B v l w) : Fst B v l w := ⟨h.row, .inr h⟩
theorem run_append_zero {a a' : Option Addr} {n cap cap' : Nat} {w : World} (ty : TypeId) (hn : n ≤ cap) : (Builtin.append_ #[22, 22] ty #[.slice a n cap, .slice a' 0 cap']).run Try.prog w = .ok (.slice a n cap) w := by
  obtain ⟨i0, hi, hz0, hz1, hz2⟩ := info_parts infoN
  have hf : (Builtin.firstCells i0.size 0 (.slice a' 0 cap')).run Try.prog w = .ok #[] w := by
    cases a' with
    | none => exact run_firstCells_none w _ _ _ _
    | some b => exact run_firstCells_some w _ _ b _ _ [] (by simp) (by simp)
  cases a <;> simp [Builtin.append_, run_underlying Try.underlying22, sizeOf, typeInfo, hi, Builtin.lenOf, hf, storeCells, hn]
theorem run_append_F {B0 B : Nat} {v u : Value} {l m : List Pc} {w : World} (ty : TypeId) (hf : Fst B v l w) (hu : NRow w u m) (hl : l.length ≤ 100000) (hm : m.length ≤ 100000) (hB : B ≤ w.heap.size) (h00 : B0 ≤ B) (hfar : Far B0 v) :
    ∃ v' w', (Builtin.append_ #[22, 22] ty #[v, u]).run Try.prog w = .ok v' w' ∧ Fst B v' (l ++ m) w' ∧ Far B0 v' ∧ Below B w w' := by
  obtain ⟨i0, hi, hz0, hz1, hz2⟩ := info_parts infoN
  obtain ⟨hr, hk⟩ := hf
  obtain ⟨au, cu, rfl⟩ := hu.slice
  rcases Nat.eq_zero_or_pos m.length with h0 | h0
  · obtain ⟨av, cv, rfl⟩ := hr.slice
    obtain rfl : m = [] := List.eq_nil_of_length_eq_zero h0
    refine ⟨_, w, run_append_zero ty (NRow.cap hr).2.1, ?_, hfar, Below.refl _ _⟩
    rw [List.append_nil]
    exact ⟨hr, hk⟩
  · obtain ⟨bu, ou, rfl, _⟩ := hu.at h0
    have hnews := hu.news
    rcases hk with ⟨a, rfl⟩ | hown
    · cases a with
      | none =>
        obtain rfl : l = [] := hr.no
        obtain ⟨v', w', hrun, hown', hg, _⟩ := run_append_own_at (P := Try.prog) w B 22 ty 26 i0 (.agg #[.int .i64 0, .bool false, .int .i64 0, .int .i64 0, .int .i64 0, .bool false]) 6 48 Try.underlying22 hi hz0 hz1 hz2 rfl (by decide) (.slice none 0 0) 0 [] (World.ownsRow_nil _ _ _ _) _ m.length cu (ncells m) (by rw [ncells_len]) hnews (ncells_one m) (by unfold maxLen; omega) (by omega) hB
        have ho : OwnN B v' ([] ++ m) w' := by
          unfold OwnN
          simpa using hown'
        exact ⟨v', w', hrun, ho.fst, ho.far h00, (show Below B w w from ⟨rfl, rfl, rfl, Nat.le_refl _, fun _ _ => rfl⟩).grown hg hB (fun j hj => by simp [Value.ownBlock] at hj)⟩
      | some ad =>
        have hrun := run_append_grow (P := Try.prog) w 22 ty 26 i0 (.agg #[.int .i64 0, .bool false, .int .i64 0, .int .i64 0, .int .i64 0, .bool false]) Try.underlying22 hi hz0 ad l.length l.length (ncells l) (by rw [ncells_len, hz1]) hr.news ⟨bu, ou, none⟩ m.length cu (ncells m) (by rw [ncells_len, hz1]) hnews (by omega) (by omega) (growslice_fits (by omega) (by rw [hz2]; omega))
        have hge := grownCap_ge w (l.length + m.length) l.length 26
        have hcm : grownCap w (l.length + m.length) l.length 26 ≤ maxLen := grownCap_le_maxLen w (l.length + m.length) l.length 26 (by unfold maxLen; omega)
        refine ⟨_, _, hrun, ?_, fun a n c e => by cases e; exact Nat.le_trans h00 hB, below_trans (dr w) (al _ _) |>.mono hB⟩
        refine OwnN.fst ⟨by rw [ncells_len], .inr ⟨w.heap.size, grownCap w (l.length + m.length) l.length 26, _, by rw [List.length_append], hB, heap_alloc_new w.drew _, by rw [List.length_append]; exact hge, hcm, ?_, ?_⟩⟩
        · simp only [Array.size_append, List.size_toArray, size_zeroCells, ncells_len]
          rw [show (Value.cells (.agg #[.int .i64 0, .bool false, .int .i64 0, .int .i64 0, .int .i64 0, .bool false])).size = 6 from rfl, ← Nat.add_mul, ← Nat.add_mul]
          congr 1
          omega
        · simp only [Array.toList_append]
          rw [ncells_append]
          exact List.take_left' (by rw [List.length_append, ncells_len, ncells_len, List.length_append, Nat.add_mul])
    · obtain ⟨v', w', hrun, hown', hg, _⟩ := run_append_own_at (P := Try.prog) w B 22 ty 26 i0 (.agg #[.int .i64 0, .bool false, .int .i64 0, .int .i64 0, .int .i64 0, .bool false]) 6 48 Try.underlying22 hi hz0 hz1 hz2 rfl (by decide) v l.length (ncells l) hown _ m.length cu (ncells m) (by rw [ncells_len]) hnews (ncells_one m) (by unfold maxLen; omega) (by omega) hB
      have ho : OwnN B v' (l ++ m) w' := by
        unfold OwnN
        rw [ncells_append, List.length_append]
        exact hown'
      exact ⟨v', w', hrun, ho.fst, ho.far h00, (show Below B w w from ⟨rfl, rfl, rfl, Nat.le_refl _, fun _ _ => rfl⟩).grown hg hB (fun j hj => (World.ownsRow.lt hown j hj).1)⟩
/-- A row is returned; what lies below is as it was. -/
def TogE (B0 B : Nat) (l : List Pc) (w : World) (e : Ending) (w' : World) : Prop := ∃ v, e = .returned v ∧ NRow w' v l ∧ Far B0 v ∧ Below B w w'
theorem box1 {b : Nat} {c0 : Value} {w : World} (h : Box b [c0] w) : w.cell? ⟨b, 0, none⟩ = some c0 := (h.2 0 _ rfl).1
theorem box3 {b : Nat} {c0 c1 c2 : Value} {w : World} (h : Box b [c0, c1, c2] w) : w.cell? ⟨b, 0, none⟩ = some c0 ∧ w.cell? ⟨b, 1, none⟩ = some c1 ∧ w.cell? ⟨b, 2, none⟩ = some c2 := ⟨(h.2 0 _ rfl).1, (h.2 1 _ rfl).1, (h.2 2 _ rfl).1⟩

set_option maxHeartbeats 2000000 in
set_option maxRecDepth 100000 in
theorem together_1 {B0 B g : Nat} {v u1 : Value} {l m1 : List Pc} {w : World} (hg : Box g [u1] w) (hf : Fst (B) v l w) (h1 : NRow w u1 m1) (hl : l.length ≤ 1000) (hl1 : m1.length ≤ 1000) (hB : B ≤ w.heap.size) (h00 : B0 ≤ B) (hfar : Far B0 v) :
    Calls Try.prog 17 #[v, .slice (some ⟨g, 0, none⟩) 1 1] w (TogE B0 (B) (l ++ m1) w) := by
  obtain ⟨v1, w1, r1, f1, e1, c1⟩ := run_append_F 22 hf (h1) (by omega) (by omega) hB h00 hfar
  have b1 := c1
  have HN := Lib.hid (And.intro f1.1 (And.intro e1 b1))
  have s0 := hg.1
  have y0_0 := box1 hg
  clear hg hf h1 f1 e1 c1 b1 hl1 hl hfar 
  go_enter Try.func17, Try.ntmps17
  go_wp2
  refine wp_loop_rounds 2 ?_
  rw [rounds_succ]
  go_wp2_with (at_builtin; refine Lib.wpList_append_run _ rfl _ _ _ _ rfl _ _ rfl rfl _ _ r1 ?_)
  rw [rounds_succ]
  go_wp2
  go_ret
  exact ⟨_, rfl, HN.out.1, HN.out.2.1, HN.out.2.2⟩

set_option maxHeartbeats 2000000 in
set_option maxRecDepth 100000 in
theorem together_2 {B0 g : Nat} {v u1 u2 : Value} {l m1 m2 : List Pc} {w : World} (hg : Box g [u1, u2] w) (hf : Fst (w.heap.size) v l w) (h1 : NRow w u1 m1) (h2 : NRow w u2 m2) (hl : l.length ≤ 1000) (hl1 : m1.length ≤ 1000) (hl2 : m2.length ≤ 1000) (h00 : B0 ≤ w.heap.size) (hfar : Far B0 v) :
    Calls Try.prog 17 #[v, .slice (some ⟨g, 0, none⟩) 2 2] w (TogE B0 (w.heap.size) (l ++ m1 ++ m2) w) := by
  obtain ⟨v1, w1, r1, f1, e1, c1⟩ := run_append_F 22 hf (h1) (by omega) (by omega) (Nat.le_refl _) h00 hfar
  have b1 := c1
  have g1 := hg.below b1
  obtain ⟨v2, w2, r2, f2, e2, c2⟩ := run_append_F 22 f1 (h2.below b1) (by simp only [List.length_append]; omega) (by omega) b1.size h00 e1
  have b2 := b1.trans c2
  have s1 := g1.1
  obtain ⟨y1_0, y1_1⟩ := box2 g1
  have HN := Lib.hid (And.intro f2.1 (And.intro e2 b2))
  have s0 := hg.1
  obtain ⟨y0_0, y0_1⟩ := box2 hg
  clear hg hf h1 f1 e1 c1 b1 hl1 h2 f2 e2 c2 b2 hl2 hl hfar g1
  go_enter Try.func17, Try.ntmps17
  go_wp2
  refine wp_loop_rounds 3 ?_
  rw [rounds_succ]
  go_wp2_with (at_builtin; refine Lib.wpList_append_run _ rfl _ _ _ _ rfl _ _ rfl rfl _ _ r1 ?_)
  rw [rounds_succ]
  go_wp2_with (at_builtin; refine Lib.wpList_append_run _ rfl _ _ _ _ rfl _ _ rfl rfl _ _ r2 ?_)
  rw [rounds_succ]
  go_wp2
  go_ret
  exact ⟨_, rfl, HN.out.1, HN.out.2.1, HN.out.2.2⟩

set_option maxHeartbeats 2000000 in
set_option maxRecDepth 100000 in
theorem together_3 {B0 g : Nat} {v u1 u2 u3 : Value} {l m1 m2 m3 : List Pc} {w : World} (hg : Box g [u1, u2, u3] w) (hf : Fst (w.heap.size) v l w) (h1 : NRow w u1 m1) (h2 : NRow w u2 m2) (h3 : NRow w u3 m3) (hl : l.length ≤ 1000) (hl1 : m1.length ≤ 1000) (hl2 : m2.length ≤ 1000) (hl3 : m3.length ≤ 1000) (h00 : B0 ≤ w.heap.size) (hfar : Far B0 v) :
    Calls Try.prog 17 #[v, .slice (some ⟨g, 0, none⟩) 3 3] w (TogE B0 (w.heap.size) (l ++ m1 ++ m2 ++ m3) w) := by
  obtain ⟨v1, w1, r1, f1, e1, c1⟩ := run_append_F 22 hf (h1) (by omega) (by omega) (Nat.le_refl _) h00 hfar
  have b1 := c1
  have g1 := hg.below b1
  obtain ⟨v2, w2, r2, f2, e2, c2⟩ := run_append_F 22 f1 (h2.below b1) (by simp only [List.length_append]; omega) (by omega) b1.size h00 e1
  have b2 := b1.trans c2
  have g2 := hg.below b2
  obtain ⟨v3, w3, r3, f3, e3, c3⟩ := run_append_F 22 f2 (h3.below b2) (by simp only [List.length_append]; omega) (by omega) b2.size h00 e2
  have b3 := b2.trans c3
  have s1 := g1.1
  have s2 := g2.1
  obtain ⟨y1_0, y1_1, y1_2⟩ := box3 g1
  obtain ⟨y2_0, y2_1, y2_2⟩ := box3 g2
  have HN := Lib.hid (And.intro f3.1 (And.intro e3 b3))
  have s0 := hg.1
  obtain ⟨y0_0, y0_1, y0_2⟩ := box3 hg
  clear hg hf h1 f1 e1 c1 b1 hl1 h2 f2 e2 c2 b2 hl2 h3 f3 e3 c3 b3 hl3 hl hfar g1 g2
  go_enter Try.func17, Try.ntmps17
  go_wp2
  refine wp_loop_rounds 4 ?_
  rw [rounds_succ]
  go_wp2_with (at_builtin; refine Lib.wpList_append_run _ rfl _ _ _ _ rfl _ _ rfl rfl _ _ r1 ?_)
  rw [rounds_succ]
  go_wp2_with (at_builtin; refine Lib.wpList_append_run _ rfl _ _ _ _ rfl _ _ rfl rfl _ _ r2 ?_)
  rw [rounds_succ]
  go_wp2_with (at_builtin; refine Lib.wpList_append_run _ rfl _ _ _ _ rfl _ _ rfl rfl _ _ r3 ?_)
  rw [rounds_succ]
  go_wp2
  go_ret
  exact ⟨_, rfl, HN.out.1, HN.out.2.1, HN.out.2.2⟩
end Go.Proofs.Ytkfjhfneagjejaa.Net
