/-
  Contract of the reference's Put.
-/
import Derived.Test.YtlhepocjcdbhjaaURef2
namespace Go.Proofs.Ytlhepocjcdbhjaa.Outbox
open Go.ChangeShapes Go.WideShapes Go.ChangeAt Go.RowKit Go.Shelf Go.Lib
open Go.Proofs.Ytlhepocjcdbhjaa.Queue (Box al dr below_trans ret_bool BoolB)

/-- What the reference's putting returns. -/
def TE (l : List Ot) (t z : Int) (w : World) (e : Ending) (w' : World) : Prop := ∃ v, e = .returned (.agg #[.int .i64 t, v, .int .i64 t, .int .i64 z]) ∧ OwnU w.heap.size v l w' ∧ Below w.heap.size w w'
/-- The outbox that is made, its row so far; the result's block, and the outbox that came in. -/
def RowsP (T : Int) (m : List Ot) (u : Value) (bg : Nat) (t : Int) (sl : Value) (w W : World) : Prop := Box bg (bcs T u) W ∧ OwnU (bg + 1) u m W ∧ Box (w.heap.size + 1) [.int .i64 0, .slice none 0 0, .int .i64 0, .int .i64 0] W ∧ Box w.heap.size (bcs t sl) W ∧ Below w.heap.size w W
theorem RowsP.below {T : Int} {m : List Ot} {u : Value} {bg : Nat} {t : Int} {sl : Value} {w W W' : World} (h : RowsP T m u bg t sl w W) (hb : Below W.heap.size W W') : RowsP T m u bg t sl w W' := ⟨h.1.below hb, h.2.1.below hb, h.2.2.1.below hb, h.2.2.2.1.below hb, below_trans h.2.2.2.2 hb⟩
theorem RowsP.step {T : Int} {m m' : List Ot} {u v' : Value} {bg : Nat} {t : Int} {sl : Value} {w W w3 : World} (h : RowsP T m u bg t sl w W) (hbg : w.heap.size + 1 < bg) (hown : OwnU (bg + 1) v' m' w3) (hg : W.grownBy w3 u.ownBlock) :
    RowsP T m' v' bg t sl w (w3.setCell ⟨bg, 1, none⟩ v') ∧ w3.cell? ⟨bg, 1, none⟩ = some u ∧ w3.frozen? ⟨bg, 1, none⟩ = false ∧ bg < w3.heap.size := by
  have hl := h.2.1.lies
  have ne : ∀ b, b < bg + 1 → some b ≠ u.ownBlock := fun b hb e => by have := (hl b e.symm).1; omega
  have h1 := Box.keptN h.1 hg (ne _ (by omega))
  have h2 := Box.keptN h.2.2.1 hg (ne _ (by omega))
  have h3 := Box.keptN h.2.2.2.1 hg (ne _ (by omega))
  refine ⟨⟨box_put h1 1 v' (by simp [bcs]), hown.far (by omega) 1 v', box_set_other h2 (by omega) v', box_set_other h3 (by omega) v', ?_⟩, (box2 h1).2, (frz2 h1).2, h1.1⟩
  exact (h.2.2.2.2.grown hg h.2.2.2.2.size (fun j hj => by have := (hl j hj).1; omega)).setCell (p := ⟨bg, 1, none⟩) (show w.heap.size ≤ bg by omega) v'
theorem field_U (v0 v1 v2 v3 : Value) (w : World) : (Instr.field 30 (.agg #[v0, v1, v2, v3]) 0).run Try.prog w = .ok v0 w := by kernel_rfl
theorem fst_key {l : List Ot} {t k o : Int} (h : RightP l t) : (l.any (ofB k o) = true ∧ (fst (ofB k o) l).y > 0) ∨ (l.any (ofB k o) = false ∧ fst (ofB k o) l = noT) := by
  cases ha : l.any (ofB k o) with
  | false => exact .inr ⟨rfl, fst_no ha⟩
  | true =>
    refine .inl ⟨rfl, ?_⟩
    unfold fst
    cases e : l.find? (ofB k o) with
    | none =>
      obtain ⟨x, hx, hp⟩ := List.any_eq_true.1 ha
      exact absurd hp (List.find?_eq_none.1 e x hx)
    | some x =>
      have := mayU_t.1 (h.2.2.1 x (List.mem_of_find?_eq_some e)).1
      show x.y > 0
      omega

set_option maxRecDepth 100000 in
set_option maxHeartbeats 8000000 in
theorem refPut_any {v : Value} {l : List Ot} {w : World} (t k o n : Int) (h : URow w v l) (hl : l.length ≤ 1000) : Calls Try.prog 10 #[bv t v, .int .i64 k, .int .i64 o, .int .i64 n] w (TE (putL l t k o n) (putT l t k o n) (putZ l t k o n) w) := by
  obtain ⟨a, cap, rfl⟩ := h.slice
  have H := Lib.hid h
  have HL := Lib.hid hl
  obtain ⟨hx0, hx1⟩ := two_boxes w (bcs t (.slice a l.length cap)) [.int .i64 0, .slice none 0 0, .int .i64 0, .int .i64 0] 24 38
  have hb0 := two_al w (.cells #[.int .i64 t, .slice a l.length cap] 24) (.cells #[.int .i64 0, .slice none 0 0, .int .i64 0, .int .i64 0] 38)
  obtain ⟨W0, hW0⟩ : ∃ W, (w.alloc (.cells #[.int .i64 t, .slice a l.length cap] 24)).alloc (.cells #[.int .i64 0, .slice none 0 0, .int .i64 0, .int .i64 0] 38) = W := ⟨_, rfl⟩
  have HX0 : Hid (Box w.heap.size (bcs t (.slice a l.length cap)) W0) := Lib.hid (hW0 ▸ hx0)
  have HR0 : Hid (Box (w.heap.size + 1) [.int .i64 0, .slice none 0 0, .int .i64 0, .int .i64 0] W0) := Lib.hid (hW0 ▸ hx1)
  have HB0 : Hid (Below w.heap.size w W0) := Lib.hid (hW0 ▸ hb0)
  have HRT := Lib.hid (fun W (hW : Below W0.heap.size W0 W) => refRight_any t ((H.out.below HB0.out).below hW))
  have h2i := in_any o 1
  have h3i := in_any n 0
  have hw := put_ways l t k o n
  unfold putL putT
  unfold bv at HRT ⊢
  unfold KindP NumP TickP at hw
  clear h hl hx0 hx1 hb0
  rcases hw with ⟨hr, e1⟩ | ⟨hr, h1, e1⟩ | ⟨hr, h1, h2, e1⟩ | ⟨hr, h1, h2, h3, e1⟩ | ⟨hr, h1, h2, h3, hw⟩
  · rw [hr] at HRT
    have H2 := Lib.hid h2i
    have H3 := Lib.hid h3i
    rw [e1, if_neg (by decide), if_neg (by decide)]
    clear hr e1 h2i h3i
    go_enter Try.func10, Try.ntmps10
    go_upto_region 1 with (fail)
    clear hW0
    obtain ⟨c0, c1⟩ := box2 HX0.out
    have hs0 := HX0.out.1
    go_wp2_with fail
    (with_reducible refine (HRT.out _ (Below.refl _ _)).mono ?_)
    rintro e w1 ⟨rfl, hz⟩
    have HX1 := Lib.hid (HX0.out.below hz)
    have HR1 := Lib.hid (HR0.out.below hz)
    have HB1 := Lib.hid (below_trans HB0.out hz)
    have HD1 := Lib.hid hz
    clear hz c0 c1 hs0
    obtain ⟨y0, y1, y2, y3⟩ := box4 HR1.out
    obtain ⟨z0, z1, z2, z3⟩ := frz4 HR1.out
    have hsz := HR1.out.1
    have HE := Lib.hid (below_four (b := w.heap.size + 1) (.int .i64 0) (.slice none 0 0) (.int .i64 0) (.int .i64 1) HB1.out (by omega))
    go_wp2_with (first
      | (go_at_call 31; (with_reducible refine (H2.out _).mono ?_); rintro e w' ⟨rfl, rfl⟩)
      | (go_at_call 31; (with_reducible refine (H3.out _).mono ?_); rintro e w' ⟨rfl, rfl⟩))
    exact bodyPost_ret (by simp [results, Try.results10, go_sem, y0, y1, y2, y3]) rfl ⟨_, rfl, OwnU.nil _ _, HE.out⟩
  · by_cases g1 : k < 1
    · rw [hr] at HRT
      clear h1
      have H2 := Lib.hid h2i
      have H3 := Lib.hid h3i
      rw [e1, if_neg (by decide), if_neg (by decide)]
      clear hr e1 h2i h3i
      go_enter Try.func10, Try.ntmps10
      go_upto_region 1 with (fail)
      clear hW0
      obtain ⟨c0, c1⟩ := box2 HX0.out
      have hs0 := HX0.out.1
      go_wp2_with fail
      (with_reducible refine (HRT.out _ (Below.refl _ _)).mono ?_)
      rintro e w1 ⟨rfl, hz⟩
      have HX1 := Lib.hid (HX0.out.below hz)
      have HR1 := Lib.hid (HR0.out.below hz)
      have HB1 := Lib.hid (below_trans HB0.out hz)
      have HD1 := Lib.hid hz
      clear hz c0 c1 hs0
      obtain ⟨y0, y1, y2, y3⟩ := box4 HR1.out
      obtain ⟨z0, z1, z2, z3⟩ := frz4 HR1.out
      have hsz := HR1.out.1
      have HE := Lib.hid (below_four (b := w.heap.size + 1) (.int .i64 0) (.slice none 0 0) (.int .i64 0) (.int .i64 1) HB1.out (by omega))
      go_wp2_with (first
        | (go_at_call 31; (with_reducible refine (H2.out _).mono ?_); rintro e w' ⟨rfl, rfl⟩)
        | (go_at_call 31; (with_reducible refine (H3.out _).mono ?_); rintro e w' ⟨rfl, rfl⟩))
      exact bodyPost_ret (by simp [results, Try.results10, go_sem, y0, y1, y2, y3]) rfl ⟨_, rfl, OwnU.nil _ _, HE.out⟩
    · rw [hr] at HRT
      have g2 : k > 3 := by omega
      clear h1
      have H2 := Lib.hid h2i
      have H3 := Lib.hid h3i
      rw [e1, if_neg (by decide), if_neg (by decide)]
      clear hr e1 h2i h3i
      go_enter Try.func10, Try.ntmps10
      go_upto_region 1 with (fail)
      clear hW0
      obtain ⟨c0, c1⟩ := box2 HX0.out
      have hs0 := HX0.out.1
      go_wp2_with fail
      (with_reducible refine (HRT.out _ (Below.refl _ _)).mono ?_)
      rintro e w1 ⟨rfl, hz⟩
      have HX1 := Lib.hid (HX0.out.below hz)
      have HR1 := Lib.hid (HR0.out.below hz)
      have HB1 := Lib.hid (below_trans HB0.out hz)
      have HD1 := Lib.hid hz
      clear hz c0 c1 hs0
      obtain ⟨y0, y1, y2, y3⟩ := box4 HR1.out
      obtain ⟨z0, z1, z2, z3⟩ := frz4 HR1.out
      have hsz := HR1.out.1
      have HE := Lib.hid (below_four (b := w.heap.size + 1) (.int .i64 0) (.slice none 0 0) (.int .i64 0) (.int .i64 1) HB1.out (by omega))
      go_wp2_with (first
        | (go_at_call 31; (with_reducible refine (H2.out _).mono ?_); rintro e w' ⟨rfl, rfl⟩)
        | (go_at_call 31; (with_reducible refine (H3.out _).mono ?_); rintro e w' ⟨rfl, rfl⟩))
      exact bodyPost_ret (by simp [results, Try.results10, go_sem, y0, y1, y2, y3]) rfl ⟨_, rfl, OwnU.nil _ _, HE.out⟩
  · rw [hr] at HRT
    have g1 : ¬ k < 1 := by omega
    have g2 : ¬ k > 3 := by omega
    rw [decide_eq_false h2] at h2i
    clear h1 h2
    have H2 := Lib.hid h2i
    have H3 := Lib.hid h3i
    rw [e1, if_neg (by decide), if_neg (by decide)]
    clear hr e1 h2i h3i
    go_enter Try.func10, Try.ntmps10
    go_upto_region 1 with (fail)
    clear hW0
    obtain ⟨c0, c1⟩ := box2 HX0.out
    have hs0 := HX0.out.1
    go_wp2_with fail
    (with_reducible refine (HRT.out _ (Below.refl _ _)).mono ?_)
    rintro e w1 ⟨rfl, hz⟩
    have HX1 := Lib.hid (HX0.out.below hz)
    have HR1 := Lib.hid (HR0.out.below hz)
    have HB1 := Lib.hid (below_trans HB0.out hz)
    have HD1 := Lib.hid hz
    clear hz c0 c1 hs0
    obtain ⟨y0, y1, y2, y3⟩ := box4 HR1.out
    obtain ⟨z0, z1, z2, z3⟩ := frz4 HR1.out
    have hsz := HR1.out.1
    have HE := Lib.hid (below_four (b := w.heap.size + 1) (.int .i64 0) (.slice none 0 0) (.int .i64 0) (.int .i64 1) HB1.out (by omega))
    go_wp2_with (first
      | (go_at_call 31; (with_reducible refine (H2.out _).mono ?_); rintro e w' ⟨rfl, rfl⟩)
      | (go_at_call 31; (with_reducible refine (H3.out _).mono ?_); rintro e w' ⟨rfl, rfl⟩))
    exact bodyPost_ret (by simp [results, Try.results10, go_sem, y0, y1, y2, y3]) rfl ⟨_, rfl, OwnU.nil _ _, HE.out⟩
  · rw [hr] at HRT
    have g1 : ¬ k < 1 := by omega
    have g2 : ¬ k > 3 := by omega
    rw [decide_eq_true h2] at h2i
    rw [decide_eq_false h3] at h3i
    clear h1 h2 h3
    have H2 := Lib.hid h2i
    have H3 := Lib.hid h3i
    rw [e1, if_neg (by decide), if_neg (by decide)]
    clear hr e1 h2i h3i
    go_enter Try.func10, Try.ntmps10
    go_upto_region 1 with (fail)
    clear hW0
    obtain ⟨c0, c1⟩ := box2 HX0.out
    have hs0 := HX0.out.1
    go_wp2_with fail
    (with_reducible refine (HRT.out _ (Below.refl _ _)).mono ?_)
    rintro e w1 ⟨rfl, hz⟩
    have HX1 := Lib.hid (HX0.out.below hz)
    have HR1 := Lib.hid (HR0.out.below hz)
    have HB1 := Lib.hid (below_trans HB0.out hz)
    have HD1 := Lib.hid hz
    clear hz c0 c1 hs0
    obtain ⟨y0, y1, y2, y3⟩ := box4 HR1.out
    obtain ⟨z0, z1, z2, z3⟩ := frz4 HR1.out
    have hsz := HR1.out.1
    have HE := Lib.hid (below_four (b := w.heap.size + 1) (.int .i64 0) (.slice none 0 0) (.int .i64 0) (.int .i64 1) HB1.out (by omega))
    go_wp2_with (first
      | (go_at_call 31; (with_reducible refine (H2.out _).mono ?_); rintro e w' ⟨rfl, rfl⟩)
      | (go_at_call 31; (with_reducible refine (H3.out _).mono ?_); rintro e w' ⟨rfl, rfl⟩))
    exact bodyPost_ret (by simp [results, Try.results10, go_sem, y0, y1, y2, y3]) rfl ⟨_, rfl, OwnU.nil _ _, HE.out⟩
  · have hp := rightB_t.1 hr
    have ht0 := hp.2.1.1
    have ht1 := hp.2.1.2
    have hlen := hp.1
    have hfk := fst_key (k := k) (o := o) hp
    have hfu := field_U
    have g1 : ¬ k < 1 := by omega
    have g2 : ¬ k > 3 := by omega
    rw [hr] at HRT
    rw [decide_eq_true h2] at h2i
    rw [decide_eq_true h3] at h3i
    have H2 := Lib.hid h2i
    have H3 := Lib.hid h3i
    have HFD := Lib.hid (fun W (hW : Below W0.heap.size W0 W) => refFind_any t k o ((H.out.below HB0.out).below hW))
    unfold bv at HFD
    clear hp hr h1 h2 h3 h2i h3i
    rcases hw with ⟨hn, e1⟩ | ⟨hn, h6, e1⟩ | ⟨hn, h6, h7, e1⟩ | ⟨hn, h6, h7, e1⟩
    · have hgy : (fst (ofB k o) l).y > 0 := by
        rcases hfk with ⟨_, h⟩ | ⟨h, _⟩
        · exact h
        · rw [hn] at h; cases h
      generalize fst (ofB k o) l = x at *
      clear hfk
      rw [e1, if_neg (by decide), if_neg (by decide)]
      clear hn e1
      go_enter Try.func10, Try.ntmps10
      go_upto_region 1 with (fail)
      clear hW0
      obtain ⟨c0, c1⟩ := box2 HX0.out
      have hs0 := HX0.out.1
      go_wp2_with fail
      (with_reducible refine (HRT.out _ (Below.refl _ _)).mono ?_)
      rintro e w1 ⟨rfl, hz⟩
      have HX1 := Lib.hid (HX0.out.below hz)
      have HR1 := Lib.hid (HR0.out.below hz)
      have HB1 := Lib.hid (below_trans HB0.out hz)
      have HD1 := Lib.hid hz
      clear hz c0 c1 hs0
      obtain ⟨c0, c1⟩ := box2 HX1.out
      have hs0 := HX1.out.1
      go_wp2_with (first
        | (go_at_call 31; (with_reducible refine (H2.out _).mono ?_); rintro e w' ⟨rfl, rfl⟩)
        | (go_at_call 31; (with_reducible refine (H3.out _).mono ?_); rintro e w' ⟨rfl, rfl⟩))
      (with_reducible refine (HFD.out _ HD1.out).mono ?_)
      rintro e w2 ⟨rfl, hz⟩
      have HX2 := Lib.hid (HX1.out.below hz)
      have HR2 := Lib.hid (HR1.out.below hz)
      have HB2 := Lib.hid (below_trans HB1.out hz)
      clear hz c0 c1 hs0
      obtain ⟨c0, c1⟩ := box2 HX2.out
      have hs0 := HX2.out.1
      unfold uv
      obtain ⟨y0, y1, y2, y3⟩ := box4 HR2.out
      obtain ⟨z0, z1, z2, z3⟩ := frz4 HR2.out
      have hsz := HR2.out.1
      have HE := Lib.hid (below_four (b := w.heap.size + 1) (.int .i64 0) (.slice none 0 0) (.int .i64 0) (.int .i64 9) HB2.out (by omega))
      go_wp2_with fail
      exact bodyPost_ret (by simp [results, Try.results10, go_sem, y0, y1, y2, y3]) rfl ⟨_, rfl, OwnU.nil _ _, HE.out⟩
    · have hfo : fst (ofB k o) l = noT := by
        rcases hfk with ⟨h, _⟩ | ⟨_, h⟩
        · rw [hn] at h; cases h
        · exact h
      rw [hfo] at HFD
      clear hfk hfo
      have h8 : ((l.length : Int) == 96) = true := by simpa using (by omega : (l.length : Int) = 96)
      clear h6
      rw [e1, if_neg (by decide), if_neg (by decide)]
      clear hn e1
      go_enter Try.func10, Try.ntmps10
      go_upto_region 1 with (fail)
      clear hW0
      obtain ⟨c0, c1⟩ := box2 HX0.out
      have hs0 := HX0.out.1
      go_wp2_with fail
      (with_reducible refine (HRT.out _ (Below.refl _ _)).mono ?_)
      rintro e w1 ⟨rfl, hz⟩
      have HX1 := Lib.hid (HX0.out.below hz)
      have HR1 := Lib.hid (HR0.out.below hz)
      have HB1 := Lib.hid (below_trans HB0.out hz)
      have HD1 := Lib.hid hz
      clear hz c0 c1 hs0
      obtain ⟨c0, c1⟩ := box2 HX1.out
      have hs0 := HX1.out.1
      go_wp2_with (first
        | (go_at_call 31; (with_reducible refine (H2.out _).mono ?_); rintro e w' ⟨rfl, rfl⟩)
        | (go_at_call 31; (with_reducible refine (H3.out _).mono ?_); rintro e w' ⟨rfl, rfl⟩))
      (with_reducible refine (HFD.out _ HD1.out).mono ?_)
      rintro e w2 ⟨rfl, hz⟩
      have HX2 := Lib.hid (HX1.out.below hz)
      have HR2 := Lib.hid (HR1.out.below hz)
      have HB2 := Lib.hid (below_trans HB1.out hz)
      clear hz c0 c1 hs0
      obtain ⟨c0, c1⟩ := box2 HX2.out
      have hs0 := HX2.out.1
      unfold uv
      obtain ⟨y0, y1, y2, y3⟩ := box4 HR2.out
      obtain ⟨z0, z1, z2, z3⟩ := frz4 HR2.out
      have hsz := HR2.out.1
      have HE := Lib.hid (below_four (b := w.heap.size + 1) (.int .i64 0) (.slice none 0 0) (.int .i64 0) (.int .i64 7) HB2.out (by omega))
      go_wp2_with fail
      exact bodyPost_ret (by simp [results, Try.results10, go_sem, y0, y1, y2, y3]) rfl ⟨_, rfl, OwnU.nil _ _, HE.out⟩
    · have hfo : fst (ofB k o) l = noT := by
        rcases hfk with ⟨h, _⟩ | ⟨_, h⟩
        · rw [hn] at h; cases h
        · exact h
      rw [hfo] at HFD
      clear hfk hfo
      have h8 : ((l.length : Int) == 96) = false := by simpa using (by omega : ¬ (l.length : Int) = 96)
      have h9 : (t == 1099511627776) = true := by simpa using h7
      clear h6 h7
      rw [e1, if_neg (by decide), if_neg (by decide)]
      clear hn e1
      go_enter Try.func10, Try.ntmps10
      go_upto_region 1 with (fail)
      clear hW0
      obtain ⟨c0, c1⟩ := box2 HX0.out
      have hs0 := HX0.out.1
      go_wp2_with fail
      (with_reducible refine (HRT.out _ (Below.refl _ _)).mono ?_)
      rintro e w1 ⟨rfl, hz⟩
      have HX1 := Lib.hid (HX0.out.below hz)
      have HR1 := Lib.hid (HR0.out.below hz)
      have HB1 := Lib.hid (below_trans HB0.out hz)
      have HD1 := Lib.hid hz
      clear hz c0 c1 hs0
      obtain ⟨c0, c1⟩ := box2 HX1.out
      have hs0 := HX1.out.1
      go_wp2_with (first
        | (go_at_call 31; (with_reducible refine (H2.out _).mono ?_); rintro e w' ⟨rfl, rfl⟩)
        | (go_at_call 31; (with_reducible refine (H3.out _).mono ?_); rintro e w' ⟨rfl, rfl⟩))
      (with_reducible refine (HFD.out _ HD1.out).mono ?_)
      rintro e w2 ⟨rfl, hz⟩
      have HX2 := Lib.hid (HX1.out.below hz)
      have HR2 := Lib.hid (HR1.out.below hz)
      have HB2 := Lib.hid (below_trans HB1.out hz)
      clear hz c0 c1 hs0
      obtain ⟨c0, c1⟩ := box2 HX2.out
      have hs0 := HX2.out.1
      unfold uv
      obtain ⟨y0, y1, y2, y3⟩ := box4 HR2.out
      obtain ⟨z0, z1, z2, z3⟩ := frz4 HR2.out
      have hsz := HR2.out.1
      have HE := Lib.hid (below_four (b := w.heap.size + 1) (.int .i64 0) (.slice none 0 0) (.int .i64 0) (.int .i64 7) HB2.out (by omega))
      go_wp2_with fail
      exact bodyPost_ret (by simp [results, Try.results10, go_sem, y0, y1, y2, y3]) rfl ⟨_, rfl, OwnU.nil _ _, HE.out⟩
    · have hfo : fst (ofB k o) l = noT := by
        rcases hfk with ⟨h, _⟩ | ⟨_, h⟩
        · rw [hn] at h; cases h
        · exact h
      rw [hfo] at HFD
      clear hfk hfo
      have h8 : ((l.length : Int) == 96) = false := by simpa using (by omega : ¬ (l.length : Int) = 96)
      have h9 : (t == 1099511627776) = false := by simpa using h7
      rw [e1, if_pos rfl, if_pos rfl]
      clear hn e1 h6
      go_enter Try.func10, Try.ntmps10
      go_upto_region 1 with (fail)
      clear hW0
      obtain ⟨c0, c1⟩ := box2 HX0.out
      have hs0 := HX0.out.1
      go_wp2_with fail
      (with_reducible refine (HRT.out _ (Below.refl _ _)).mono ?_)
      rintro e w1 ⟨rfl, hz⟩
      have HX1 := Lib.hid (HX0.out.below hz)
      have HR1 := Lib.hid (HR0.out.below hz)
      have HB1 := Lib.hid (below_trans HB0.out hz)
      have HD1 := Lib.hid hz
      clear hz c0 c1 hs0
      obtain ⟨c0, c1⟩ := box2 HX1.out
      have hs0 := HX1.out.1
      go_wp2_with (first
        | (go_at_call 31; (with_reducible refine (H2.out _).mono ?_); rintro e w' ⟨rfl, rfl⟩)
        | (go_at_call 31; (with_reducible refine (H3.out _).mono ?_); rintro e w' ⟨rfl, rfl⟩))
      (with_reducible refine (HFD.out _ HD1.out).mono ?_)
      rintro e w2 ⟨rfl, hz⟩
      have HX2 := Lib.hid (HX1.out.below hz)
      have HR2 := Lib.hid (HR1.out.below hz)
      have HB2 := Lib.hid (below_trans HB1.out hz)
      clear hz c0 c1 hs0
      obtain ⟨c0, c1⟩ := box2 HX2.out
      have hs0 := HX2.out.1
      unfold uv
      have hbo := Box.made w2 (bcs (t + 1) (.slice none 0 0)) 24
      have hbl := al w2 (.cells #[.int .i64 (t + 1), .slice none 0 0] 24)
      have hbg : w.heap.size + 1 < w2.heap.size := HR2.out.1
      have HS := Lib.hid (show RowsP (t + 1) [] (.slice none 0 0) w2.heap.size t (.slice a l.length cap) w (w2.alloc (.cells #[.int .i64 (t + 1), .slice none 0 0] 24)) from ⟨hbo, OwnU.nil _ _, HR2.out.below hbl, HX2.out.below hbl, below_trans HB2.out hbl⟩)
      clear hbo hbl
      go_upto_region 8 with (fail)
      generalize w2.alloc (.cells #[.int .i64 (t + 1), .slice none 0 0] 24) = W3 at HS ⊢
      generalize w2.heap.size = bg at *
      clear c0 c1 hs0 HX2 HR2 HB2
      obtain ⟨f0, f1⟩ := box2 HS.out.1
      have hfs := HS.out.1.1
      obtain ⟨c0, c1⟩ := box2 HS.out.2.2.2.1
      have hs0 := HS.out.2.2.2.1.1
      go_wp2_with (at_builtin; refine wpList_append_U rfl _ _ rfl (bg + 1) _ [] rfl HS.out.2.1 _ l rfl (H.out.below HS.out.2.2.2.2) (by simp) (by have := HL.out; omega) hfs ?_)
      intro v' w4 hown hbel hg
      obtain ⟨va, vn, vc, rfl⟩ : ∃ a n c, v' = .slice a n c := (by obtain ⟨a', c', e⟩ := hown.row.slice; exact ⟨a', _, c', e⟩)
      obtain ⟨hst, q0, q1, q2⟩ := HS.out.step hbg hown hg
      have HS4 := Lib.hid hst
      clear hown hbel hg hst f0 f1 hfs c0 c1 hs0 HS
      go_upto_region 9 with (fail)
      generalize w4.setCell ⟨bg, 1, none⟩ (.slice va vn vc) = W5 at HS4 ⊢
      clear q0 q1 q2
      obtain ⟨f0, f1⟩ := box2 HS4.out.1
      have hfs := HS4.out.1.1
      have hba := al W5 (.cells #[.int .i64 (t + 1), .int .i64 k, .int .i64 o, .int .i64 n] 30)
      have HONE := Lib.hid (URow.one W5 ⟨t + 1, k, o, n⟩)
      have HS5 := Lib.hid (HS4.out.below hba)
      have hsz5 : bg + 1 ≤ (W5.alloc (.cells #[.int .i64 (t + 1), .int .i64 k, .int .i64 o, .int .i64 n] 30)).heap.size := HS5.out.1.1
      clear hba
      go_wp2_with (at_builtin; refine wpList_append_U rfl _ _ rfl (bg + 1) _ l rfl HS5.out.2.1 _ [⟨t + 1, k, o, n⟩] rfl HONE.out (by have := HL.out; omega) (by simp) hsz5 ?_)
      intro v' w6 hown hbel hg
      obtain ⟨vb, vm, vd, rfl⟩ : ∃ a n c, v' = .slice a n c := (by obtain ⟨a', c', e⟩ := hown.row.slice; exact ⟨a', _, c', e⟩)
      obtain ⟨hst, q0, q1, q2⟩ := HS5.out.step hbg hown hg
      have HS6 := Lib.hid hst
      clear hown hbel hg hst f0 f1 hfs HS4 HS5
      go_upto_region 10 with (fail)
      generalize w6.setCell ⟨bg, 1, none⟩ (.slice vb vm vd) = W7 at HS6 ⊢
      clear q0 q1 q2
      obtain ⟨f0, f1⟩ := box2 HS6.out.1
      have hfs := HS6.out.1.1
      obtain ⟨y0, y1, y2, y3⟩ := box4 HS6.out.2.2.1
      obtain ⟨z0, z1, z2, z3⟩ := frz4 HS6.out.2.2.1
      have hsz := HS6.out.2.2.1.1
      have HE := Lib.hid (below_four (b := w.heap.size + 1) (.int .i64 (t + 1)) (.slice vb vm vd) (.int .i64 (t + 1)) (.int .i64 0) HS6.out.2.2.2.2 (by omega))
      have HO := Lib.hid (((((HS6.out.2.1.far (g := w.heap.size + 1) (by omega) 0 (.int .i64 (t + 1))).far (g := w.heap.size + 1) (by omega) 1 (.slice vb vm vd)).far (g := w.heap.size + 1) (by omega) 2 (.int .i64 (t + 1))).far (g := w.heap.size + 1) (by omega) 3 (.int .i64 0)).mono (B' := w.heap.size) (by omega))
      go_wp2_with fail
      exact bodyPost_ret (by simp [results, Try.results10, go_sem, y0, y1, y2, y3]) rfl ⟨.slice vb vm vd, rfl, by unfold put; exact HO.out, HE.out⟩
end Go.Proofs.Ytlhepocjcdbhjaa.Outbox
