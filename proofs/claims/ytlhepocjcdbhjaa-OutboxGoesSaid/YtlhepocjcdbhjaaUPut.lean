/-
  Contracts of package outbox's Put and Done.
-/
import Derived.Test.YtlhepocjcdbhjaaURight
import Derived.Test.YtlhepocjcdbhjaaUHold
import Derived.Test.YtlhepocjcdbhjaaUCat
namespace Go.Proofs.Ytlhepocjcdbhjaa.Outbox
open Go.ChangeShapes Go.WideShapes Go.ChangeAt Go.RowKit Go.Shelf Go.Lib
open Go.Proofs.Ytlhepocjcdbhjaa.Queue (Box al dr below_trans ret_bool BoolB)

theorem two_boxes (w : World) (us vs : List Value) (T T' : TypeId) : Box w.heap.size us ((w.alloc (.cells us.toArray T)).alloc (.cells vs.toArray T')) ∧ Box (w.heap.size + 1) vs ((w.alloc (.cells us.toArray T)).alloc (.cells vs.toArray T')) := by
  refine ⟨(Box.made w us T).below (al _ _), ?_⟩
  have := Box.made (w.alloc (.cells us.toArray T)) vs T'
  simpa only [World.size_alloc] using this
/-- A cell of another block is turned. -/
theorem box_set_other {b g j : Nat} {vs : List Value} {w : World} (h : Box b vs w) (hne : g ≠ b) (x : Value) : Box b vs (w.setCell ⟨g, j, none⟩ x) := by
  refine ⟨by simpa using h.1, fun i v hi => ?_⟩
  obtain ⟨h1, h2⟩ := h.2 i v hi
  constructor
  · simp [go_sem, h1]
  · simp [go_sem, h2]
theorem OwnU.far {B g : Nat} {v : Value} {l : List Ot} {w : World} (h : OwnU B v l w) (hg : g < B) (j : Nat) (u : Value) : OwnU B v l (w.setCell ⟨g, j, none⟩ u) := by
  obtain ⟨h0, h1 | ⟨g', cap, cur, hv, hg', hh, hrest⟩⟩ := h
  · exact ⟨h0, .inl h1⟩
  · have hne : g' ≠ g := by omega
    exact ⟨h0, .inr ⟨g', cap, cur, hv, hg', (heap_setCell_other _ ⟨g, j, none⟩ _ _ hne).trans hh, hrest⟩⟩
def putZ (l : List Ot) (t k o n : Int) : Int := if rightB l t = true ∧ KindP k ∧ NumP o ∧ TickP n then (if l.any (ofB k o) = true then 9 else if l.length = 96 ∨ t = 1099511627776 then 7 else 0) else 1
def putL (l : List Ot) (t k o n : Int) : List Ot := if putZ l t k o n = 0 then put l t k o n else []
def putT (l : List Ot) (t k o n : Int) : Int := if putZ l t k o n = 0 then t + 1 else 0
/-- An outbox, its last key, and an error are returned. -/
def PutE (l : List Ot) (t z : Int) (w : World) (e : Ending) (w' : World) : Prop := ∃ v, e = .returned (.tuple #[bv t v, .int .i64 t, .int .i64 z]) ∧ OwnU w.heap.size v l w' ∧ Below w.heap.size w w'
theorem put_ways (l : List Ot) (t k o n : Int) : (rightB l t = false ∧ putZ l t k o n = 1) ∨ (rightB l t = true ∧ ¬ KindP k ∧ putZ l t k o n = 1) ∨ (rightB l t = true ∧ KindP k ∧ ¬ NumP o ∧ putZ l t k o n = 1) ∨ (rightB l t = true ∧ KindP k ∧ NumP o ∧ ¬ TickP n ∧ putZ l t k o n = 1) ∨
    (rightB l t = true ∧ KindP k ∧ NumP o ∧ TickP n ∧ ((l.any (ofB k o) = true ∧ putZ l t k o n = 9) ∨ (l.any (ofB k o) = false ∧ l.length = 96 ∧ putZ l t k o n = 7) ∨ (l.any (ofB k o) = false ∧ l.length ≠ 96 ∧ t = 1099511627776 ∧ putZ l t k o n = 7) ∨ (l.any (ofB k o) = false ∧ l.length ≠ 96 ∧ t ≠ 1099511627776 ∧ putZ l t k o n = 0))) := by
  unfold putZ
  by_cases h1 : rightB l t = true
  · by_cases h2 : KindP k
    · by_cases h3 : NumP o
      · by_cases h4 : TickP n
        · rw [if_pos ⟨h1, h2, h3, h4⟩]
          refine .inr (.inr (.inr (.inr ⟨h1, h2, h3, h4, ?_⟩)))
          cases h5 : l.any (ofB k o) with
          | true => exact .inl ⟨rfl, rfl⟩
          | false =>
            rw [if_neg (by decide)]
            by_cases h6 : l.length = 96
            · exact .inr (.inl ⟨rfl, h6, if_pos (.inl h6)⟩)
            · by_cases h7 : t = 1099511627776
              · exact .inr (.inr (.inl ⟨rfl, h6, h7, if_pos (.inr h7)⟩))
              · exact .inr (.inr (.inr ⟨rfl, h6, h7, if_neg (by rintro (h | h); exact h6 h; exact h7 h)⟩))
        · exact .inr (.inr (.inr (.inl ⟨h1, h2, h3, h4, if_neg (fun h => h4 h.2.2.2)⟩)))
      · exact .inr (.inr (.inl ⟨h1, h2, h3, if_neg (fun h => h3 h.2.2.1)⟩))
    · exact .inr (.inl ⟨h1, h2, if_neg (fun h => h2 h.2.1)⟩)
  · exact .inl ⟨by simpa using h1, if_neg (fun h => h1 h.1)⟩

set_option maxRecDepth 100000 in
set_option maxHeartbeats 8000000 in
theorem Put_any {v : Value} {l : List Ot} {w : World} (t k o n : Int) (h : URow w v l) (hl : l.length ≤ 1000) : Calls Try.prog 6 #[bv t v, .int .i64 k, .int .i64 o, .int .i64 n] w (PutE (putL l t k o n) (putT l t k o n) (putZ l t k o n) w) := by
  obtain ⟨a, cap, rfl⟩ := h.slice
  have H := Lib.hid h
  obtain ⟨hx0, hx1⟩ := two_boxes w (bcs t (.slice a l.length cap)) (bcs 0 (.slice none 0 0)) 24 24
  have hb0 := two_al w (.cells #[.int .i64 t, .slice a l.length cap] 24) (.cells #[.int .i64 0, .slice none 0 0] 24)
  obtain ⟨W0, hW0⟩ : ∃ W, (w.alloc (.cells #[.int .i64 t, .slice a l.length cap] 24)).alloc (.cells #[.int .i64 0, .slice none 0 0] 24) = W := ⟨_, rfl⟩
  have HX0 : Hid (Box w.heap.size (bcs t (.slice a l.length cap)) W0) := Lib.hid (hW0 ▸ hx0)
  have HR0 : Hid (Box (w.heap.size + 1) (bcs 0 (.slice none 0 0)) W0) := Lib.hid (hW0 ▸ hx1)
  have HB0 : Hid (Below w.heap.size w W0) := Lib.hid (hW0 ▸ hb0)
  have HRT := Lib.hid (fun W (hW : Below W0.heap.size W0 W) => Right_any t ((H.out.below HB0.out).below hW) hl)
  have HKI := Lib.hid (kind_any k)
  have HNU := Lib.hid (number_any o)
  have HTI := Lib.hid (tick_any n)
  have hw := put_ways l t k o n
  unfold putL putT
  unfold bv at HRT ⊢
  clear h hx0 hx1 hb0
  rcases hw with ⟨hr, e1⟩ | ⟨hr, h1, e1⟩ | ⟨hr, h1, h2, e1⟩ | ⟨hr, h1, h2, h3, e1⟩ | ⟨hr, h1, h2, h3, hw⟩
  · rw [hr] at HRT
    rw [e1, if_neg (by decide), if_neg (by decide)]
    clear hr e1
    go_enter Try.func6, Try.ntmps6
    go_upto_region 1 with (fail)
    clear hW0
    obtain ⟨c0, c1⟩ := box2 HX0.out
    have hs0 := HX0.out.1
    go_wp2_with fail
    (with_reducible refine (HRT.out _ (Below.refl _ _)).mono ?_)
    rintro e w1 ⟨rfl, hz⟩
    have HX1 := Lib.hid (HX0.out.below hz)
    have HR1 := Lib.hid (HR0.out.below hz)
    have HB1 := Lib.hid (below_trans HB0.out hz)
    have HD1 := Lib.hid hz
    clear hz c0 c1 hs0
    obtain ⟨y0, y1⟩ := box2 HR1.out
    obtain ⟨z0, z1⟩ := frz2 HR1.out
    have hsz := HR1.out.1
    have HE := Lib.hid (below_two (b := w.heap.size + 1) (.int .i64 0) (.slice none 0 0) HB1.out (by omega))
    go_wp2_with (first
      | (go_at_call 21; (with_reducible refine (HKI.out _).mono ?_); rintro e w' ⟨rfl, rfl⟩)
      | (go_at_call 22; (with_reducible refine (HNU.out _).mono ?_); rintro e w' ⟨rfl, rfl⟩)
      | (go_at_call 23; (with_reducible refine (HTI.out _).mono ?_); rintro e w' ⟨rfl, rfl⟩))
    exact bodyPost_ret (by simp [results, Try.results6, go_sem, bv, y0, y1]) rfl ⟨_, rfl, OwnU.nil _ _, HE.out⟩
  · rw [hr] at HRT
    rw [decide_eq_false h1] at HKI
    clear h1
    rw [e1, if_neg (by decide), if_neg (by decide)]
    clear hr e1
    go_enter Try.func6, Try.ntmps6
    go_upto_region 1 with (fail)
    clear hW0
    obtain ⟨c0, c1⟩ := box2 HX0.out
    have hs0 := HX0.out.1
    go_wp2_with fail
    (with_reducible refine (HRT.out _ (Below.refl _ _)).mono ?_)
    rintro e w1 ⟨rfl, hz⟩
    have HX1 := Lib.hid (HX0.out.below hz)
    have HR1 := Lib.hid (HR0.out.below hz)
    have HB1 := Lib.hid (below_trans HB0.out hz)
    have HD1 := Lib.hid hz
    clear hz c0 c1 hs0
    obtain ⟨y0, y1⟩ := box2 HR1.out
    obtain ⟨z0, z1⟩ := frz2 HR1.out
    have hsz := HR1.out.1
    have HE := Lib.hid (below_two (b := w.heap.size + 1) (.int .i64 0) (.slice none 0 0) HB1.out (by omega))
    go_wp2_with (first
      | (go_at_call 21; (with_reducible refine (HKI.out _).mono ?_); rintro e w' ⟨rfl, rfl⟩)
      | (go_at_call 22; (with_reducible refine (HNU.out _).mono ?_); rintro e w' ⟨rfl, rfl⟩)
      | (go_at_call 23; (with_reducible refine (HTI.out _).mono ?_); rintro e w' ⟨rfl, rfl⟩))
    exact bodyPost_ret (by simp [results, Try.results6, go_sem, bv, y0, y1]) rfl ⟨_, rfl, OwnU.nil _ _, HE.out⟩
  · rw [hr] at HRT
    rw [decide_eq_true h1] at HKI
    rw [decide_eq_false h2] at HNU
    clear h1 h2
    rw [e1, if_neg (by decide), if_neg (by decide)]
    clear hr e1
    go_enter Try.func6, Try.ntmps6
    go_upto_region 1 with (fail)
    clear hW0
    obtain ⟨c0, c1⟩ := box2 HX0.out
    have hs0 := HX0.out.1
    go_wp2_with fail
    (with_reducible refine (HRT.out _ (Below.refl _ _)).mono ?_)
    rintro e w1 ⟨rfl, hz⟩
    have HX1 := Lib.hid (HX0.out.below hz)
    have HR1 := Lib.hid (HR0.out.below hz)
    have HB1 := Lib.hid (below_trans HB0.out hz)
    have HD1 := Lib.hid hz
    clear hz c0 c1 hs0
    obtain ⟨y0, y1⟩ := box2 HR1.out
    obtain ⟨z0, z1⟩ := frz2 HR1.out
    have hsz := HR1.out.1
    have HE := Lib.hid (below_two (b := w.heap.size + 1) (.int .i64 0) (.slice none 0 0) HB1.out (by omega))
    go_wp2_with (first
      | (go_at_call 21; (with_reducible refine (HKI.out _).mono ?_); rintro e w' ⟨rfl, rfl⟩)
      | (go_at_call 22; (with_reducible refine (HNU.out _).mono ?_); rintro e w' ⟨rfl, rfl⟩)
      | (go_at_call 23; (with_reducible refine (HTI.out _).mono ?_); rintro e w' ⟨rfl, rfl⟩))
    exact bodyPost_ret (by simp [results, Try.results6, go_sem, bv, y0, y1]) rfl ⟨_, rfl, OwnU.nil _ _, HE.out⟩
  · rw [hr] at HRT
    rw [decide_eq_true h1] at HKI
    rw [decide_eq_true h2] at HNU
    rw [decide_eq_false h3] at HTI
    clear h1 h2 h3
    rw [e1, if_neg (by decide), if_neg (by decide)]
    clear hr e1
    go_enter Try.func6, Try.ntmps6
    go_upto_region 1 with (fail)
    clear hW0
    obtain ⟨c0, c1⟩ := box2 HX0.out
    have hs0 := HX0.out.1
    go_wp2_with fail
    (with_reducible refine (HRT.out _ (Below.refl _ _)).mono ?_)
    rintro e w1 ⟨rfl, hz⟩
    have HX1 := Lib.hid (HX0.out.below hz)
    have HR1 := Lib.hid (HR0.out.below hz)
    have HB1 := Lib.hid (below_trans HB0.out hz)
    have HD1 := Lib.hid hz
    clear hz c0 c1 hs0
    obtain ⟨y0, y1⟩ := box2 HR1.out
    obtain ⟨z0, z1⟩ := frz2 HR1.out
    have hsz := HR1.out.1
    have HE := Lib.hid (below_two (b := w.heap.size + 1) (.int .i64 0) (.slice none 0 0) HB1.out (by omega))
    go_wp2_with (first
      | (go_at_call 21; (with_reducible refine (HKI.out _).mono ?_); rintro e w' ⟨rfl, rfl⟩)
      | (go_at_call 22; (with_reducible refine (HNU.out _).mono ?_); rintro e w' ⟨rfl, rfl⟩)
      | (go_at_call 23; (with_reducible refine (HTI.out _).mono ?_); rintro e w' ⟨rfl, rfl⟩))
    exact bodyPost_ret (by simp [results, Try.results6, go_sem, bv, y0, y1]) rfl ⟨_, rfl, OwnU.nil _ _, HE.out⟩
  · have hp := rightB_t.1 hr
    have ht0 := hp.2.1.1
    have ht1 := hp.2.1.2
    have hlen := hp.1
    rw [hr] at HRT
    rw [decide_eq_true h1] at HKI
    rw [decide_eq_true h2] at HNU
    rw [decide_eq_true h3] at HTI
    have HTD := Lib.hid (fun W (hW : Below W0.heap.size W0 W) => isTold_any ((H.out.below HB0.out).below hW) hl k o)
    clear hp hr h1 h2 h3

    rcases hw with ⟨hn, e1⟩ | ⟨hn, h6, e1⟩ | ⟨hn, h6, h7, e1⟩ | ⟨hn, h6, h7, e1⟩
    · skip
      rw [e1, if_neg (by decide), if_neg (by decide)]
      rw [hn] at HTD
      clear hn e1
      go_enter Try.func6, Try.ntmps6
      go_upto_region 1 with (fail)
      clear hW0
      obtain ⟨c0, c1⟩ := box2 HX0.out
      have hs0 := HX0.out.1
      go_wp2_with fail
      (with_reducible refine (HRT.out _ (Below.refl _ _)).mono ?_)
      rintro e w1 ⟨rfl, hz⟩
      have HX1 := Lib.hid (HX0.out.below hz)
      have HR1 := Lib.hid (HR0.out.below hz)
      have HB1 := Lib.hid (below_trans HB0.out hz)
      have HD1 := Lib.hid hz
      clear hz c0 c1 hs0
      obtain ⟨c0, c1⟩ := box2 HX1.out
      have hs0 := HX1.out.1
      go_wp2_with (first
        | (go_at_call 21; (with_reducible refine (HKI.out _).mono ?_); rintro e w' ⟨rfl, rfl⟩)
        | (go_at_call 22; (with_reducible refine (HNU.out _).mono ?_); rintro e w' ⟨rfl, rfl⟩)
        | (go_at_call 23; (with_reducible refine (HTI.out _).mono ?_); rintro e w' ⟨rfl, rfl⟩))
      (with_reducible refine (HTD.out _ HD1.out).mono ?_)
      rintro e w2 ⟨rfl, hz⟩
      have HX2 := Lib.hid (HX1.out.below hz)
      have HR2 := Lib.hid (HR1.out.below hz)
      have HB2 := Lib.hid (below_trans HB1.out hz)
      clear hz c0 c1 hs0
      obtain ⟨c0, c1⟩ := box2 HX2.out
      have hs0 := HX2.out.1
      obtain ⟨y0, y1⟩ := box2 HR2.out
      obtain ⟨z0, z1⟩ := frz2 HR2.out
      have hsz := HR2.out.1
      have HE := Lib.hid (below_two (b := w.heap.size + 1) (.int .i64 0) (.slice none 0 0) HB2.out (by omega))
      go_wp2_with fail
      exact bodyPost_ret (by simp [results, Try.results6, go_sem, bv, y0, y1]) rfl ⟨_, rfl, OwnU.nil _ _, HE.out⟩
    · have h8 : ((l.length : Int) == 96) = true := by simpa using (by omega : (l.length : Int) = 96)
      clear h6
      rw [e1, if_neg (by decide), if_neg (by decide)]
      rw [hn] at HTD
      clear hn e1
      go_enter Try.func6, Try.ntmps6
      go_upto_region 1 with (fail)
      clear hW0
      obtain ⟨c0, c1⟩ := box2 HX0.out
      have hs0 := HX0.out.1
      go_wp2_with fail
      (with_reducible refine (HRT.out _ (Below.refl _ _)).mono ?_)
      rintro e w1 ⟨rfl, hz⟩
      have HX1 := Lib.hid (HX0.out.below hz)
      have HR1 := Lib.hid (HR0.out.below hz)
      have HB1 := Lib.hid (below_trans HB0.out hz)
      have HD1 := Lib.hid hz
      clear hz c0 c1 hs0
      obtain ⟨c0, c1⟩ := box2 HX1.out
      have hs0 := HX1.out.1
      go_wp2_with (first
        | (go_at_call 21; (with_reducible refine (HKI.out _).mono ?_); rintro e w' ⟨rfl, rfl⟩)
        | (go_at_call 22; (with_reducible refine (HNU.out _).mono ?_); rintro e w' ⟨rfl, rfl⟩)
        | (go_at_call 23; (with_reducible refine (HTI.out _).mono ?_); rintro e w' ⟨rfl, rfl⟩))
      (with_reducible refine (HTD.out _ HD1.out).mono ?_)
      rintro e w2 ⟨rfl, hz⟩
      have HX2 := Lib.hid (HX1.out.below hz)
      have HR2 := Lib.hid (HR1.out.below hz)
      have HB2 := Lib.hid (below_trans HB1.out hz)
      clear hz c0 c1 hs0
      obtain ⟨c0, c1⟩ := box2 HX2.out
      have hs0 := HX2.out.1
      obtain ⟨y0, y1⟩ := box2 HR2.out
      obtain ⟨z0, z1⟩ := frz2 HR2.out
      have hsz := HR2.out.1
      have HE := Lib.hid (below_two (b := w.heap.size + 1) (.int .i64 0) (.slice none 0 0) HB2.out (by omega))
      go_wp2_with fail
      exact bodyPost_ret (by simp [results, Try.results6, go_sem, bv, y0, y1]) rfl ⟨_, rfl, OwnU.nil _ _, HE.out⟩
    · have h8 : ((l.length : Int) == 96) = false := by simpa using (by omega : ¬ (l.length : Int) = 96)
      have h9 : (t == 1099511627776) = true := by simpa using h7
      clear h6 h7
      rw [e1, if_neg (by decide), if_neg (by decide)]
      rw [hn] at HTD
      clear hn e1
      go_enter Try.func6, Try.ntmps6
      go_upto_region 1 with (fail)
      clear hW0
      obtain ⟨c0, c1⟩ := box2 HX0.out
      have hs0 := HX0.out.1
      go_wp2_with fail
      (with_reducible refine (HRT.out _ (Below.refl _ _)).mono ?_)
      rintro e w1 ⟨rfl, hz⟩
      have HX1 := Lib.hid (HX0.out.below hz)
      have HR1 := Lib.hid (HR0.out.below hz)
      have HB1 := Lib.hid (below_trans HB0.out hz)
      have HD1 := Lib.hid hz
      clear hz c0 c1 hs0
      obtain ⟨c0, c1⟩ := box2 HX1.out
      have hs0 := HX1.out.1
      go_wp2_with (first
        | (go_at_call 21; (with_reducible refine (HKI.out _).mono ?_); rintro e w' ⟨rfl, rfl⟩)
        | (go_at_call 22; (with_reducible refine (HNU.out _).mono ?_); rintro e w' ⟨rfl, rfl⟩)
        | (go_at_call 23; (with_reducible refine (HTI.out _).mono ?_); rintro e w' ⟨rfl, rfl⟩))
      (with_reducible refine (HTD.out _ HD1.out).mono ?_)
      rintro e w2 ⟨rfl, hz⟩
      have HX2 := Lib.hid (HX1.out.below hz)
      have HR2 := Lib.hid (HR1.out.below hz)
      have HB2 := Lib.hid (below_trans HB1.out hz)
      clear hz c0 c1 hs0
      obtain ⟨c0, c1⟩ := box2 HX2.out
      have hs0 := HX2.out.1
      obtain ⟨y0, y1⟩ := box2 HR2.out
      obtain ⟨z0, z1⟩ := frz2 HR2.out
      have hsz := HR2.out.1
      have HE := Lib.hid (below_two (b := w.heap.size + 1) (.int .i64 0) (.slice none 0 0) HB2.out (by omega))
      go_wp2_with fail
      exact bodyPost_ret (by simp [results, Try.results6, go_sem, bv, y0, y1]) rfl ⟨_, rfl, OwnU.nil _ _, HE.out⟩
    · have h8 : ((l.length : Int) == 96) = false := by simpa using (by omega : ¬ (l.length : Int) = 96)
      have h9 : (t == 1099511627776) = false := by simpa using h7
      rw [e1, if_pos rfl, if_pos rfl]
      rw [hn] at HTD
      clear hn e1 h6
      go_enter Try.func6, Try.ntmps6
      go_upto_region 1 with (fail)
      clear hW0
      obtain ⟨c0, c1⟩ := box2 HX0.out
      have hs0 := HX0.out.1
      go_wp2_with fail
      (with_reducible refine (HRT.out _ (Below.refl _ _)).mono ?_)
      rintro e w1 ⟨rfl, hz⟩
      have HX1 := Lib.hid (HX0.out.below hz)
      have HR1 := Lib.hid (HR0.out.below hz)
      have HB1 := Lib.hid (below_trans HB0.out hz)
      have HD1 := Lib.hid hz
      clear hz c0 c1 hs0
      obtain ⟨c0, c1⟩ := box2 HX1.out
      have hs0 := HX1.out.1
      go_wp2_with (first
        | (go_at_call 21; (with_reducible refine (HKI.out _).mono ?_); rintro e w' ⟨rfl, rfl⟩)
        | (go_at_call 22; (with_reducible refine (HNU.out _).mono ?_); rintro e w' ⟨rfl, rfl⟩)
        | (go_at_call 23; (with_reducible refine (HTI.out _).mono ?_); rintro e w' ⟨rfl, rfl⟩))
      (with_reducible refine (HTD.out _ HD1.out).mono ?_)
      rintro e w2 ⟨rfl, hz⟩
      have HX2 := Lib.hid (HX1.out.below hz)
      have HR2 := Lib.hid (HR1.out.below hz)
      have HB2 := Lib.hid (below_trans HB1.out hz)
      clear hz c0 c1 hs0
      obtain ⟨c0, c1⟩ := box2 HX2.out
      have hs0 := HX2.out.1
      obtain ⟨y0, y1⟩ := box2 HR2.out
      obtain ⟨z0, z1⟩ := frz2 HR2.out
      have hsz := HR2.out.1
      have hbx := Box.made w2 (ocs ⟨t + 1, k, o, n⟩) 30
      have hba := al w2 (.cells #[.int .i64 (t + 1), .int .i64 k, .int .i64 o, .int .i64 n] 30)
      obtain ⟨W3, hW3⟩ : ∃ W, w2.alloc (.cells #[.int .i64 (t + 1), .int .i64 k, .int .i64 o, .int .i64 n] 30) = W := ⟨_, rfl⟩
      have HX3 : Hid (Box w2.heap.size [.int .i64 (t + 1), .int .i64 k, .int .i64 o, .int .i64 n] W3) := Lib.hid (hW3 ▸ hbx)
      have HB3 : Hid (Below w.heap.size w W3) := Lib.hid (hW3 ▸ below_trans HB2.out hba)
      have HB4 : Hid (Box w.heap.size (bcs t (.slice a l.length cap)) W3) := Lib.hid (hW3 ▸ HX2.out.below hba)
      have HRS : Hid (Box (w.heap.size + 1) (bcs 0 (.slice none 0 0)) W3) := Lib.hid (hW3 ▸ HR2.out.below hba)
      have hgt : w.heap.size + 1 < w2.heap.size := HR2.out.1
      go_upto_region 8 with (fail)
      clear hW3 c0 c1 hs0 y0 y1 z0 z1 hsz hbx hba
      generalize w2.heap.size = bx at *
      refine wp_region_noPanic ?_
      refine till_region (fun W' => Box bx [.int .i64 (t + 1), .int .i64 k, .int .i64 o, .int .i64 n] W' ∧ Box w.heap.size (bcs t (.slice a l.length cap)) W' ∧ True) (fun j => decide (12 ≤ j)) (by kernel_rfl) ?_
      have hgo : ∀ W, Below W3.heap.size W3 W → Box bx [.int .i64 (t + 1), .int .i64 k, .int .i64 o, .int .i64 n] W ∧ Box w.heap.size (bcs t (.slice a l.length cap)) W ∧ True := fun W hW => ⟨HX3.out.below hW, HB4.out.below hW, trivial⟩
      have HWD := Lib.hid (dr W3)
      generalize W3.drew = WD at HWD ⊢
      have hS := hgo _ HWD.out
      have HROW := Lib.hid (fun W (hW : Below W3.heap.size W3 W) => (H.out.below HB3.out).below hW)
      try simp only [Act.put, List.setIfInBounds_toArray, List.set_cons_zero, List.set_cons_succ]
      refine takeT 0 54 [12, 13] (.pointer (some ⟨bx, 0, none⟩)) calm_np rfl rfl (by kernel_rfl) (by rfl) (by kernel_rfl) (by kernel_rfl) (by kernel_rfl) (by kernel_rfl) (by rfl) (fun w' hSw => by go_simp) hS ?_
      try simp only [Act.put, List.setIfInBounds_toArray, List.set_cons_zero, List.set_cons_succ]
      refine takeT 1 55 [12, 13] (.int .i64 (t + 1)) calm_np rfl rfl (by kernel_rfl) (by rfl) (by kernel_rfl) (by kernel_rfl) (by kernel_rfl) (by kernel_rfl) (by rfl) (fun w' hSw => by obtain ⟨g0, g1, g2, g3⟩ := box4 hSw.1; obtain ⟨f0, f1⟩ := box2 hSw.2.1; have hsl := hSw.1.1; have hsl2 := hSw.2.1.1; go_simp) hS ?_
      try simp only [Act.put, List.setIfInBounds_toArray, List.set_cons_zero, List.set_cons_succ]
      refine takeT 2 56 [12, 13] (.pointer (some ⟨w.heap.size, 1, none⟩)) calm_np rfl rfl (by kernel_rfl) (by rfl) (by kernel_rfl) (by kernel_rfl) (by kernel_rfl) (by kernel_rfl) (by rfl) (fun w' hSw => by go_simp) hS ?_
      try simp only [Act.put, List.setIfInBounds_toArray, List.set_cons_zero, List.set_cons_succ]
      refine takeT 3 57 [12, 13] (.slice a l.length cap) calm_np rfl rfl (by kernel_rfl) (by rfl) (by kernel_rfl) (by kernel_rfl) (by kernel_rfl) (by kernel_rfl) (by rfl) (fun w' hSw => by obtain ⟨g0, g1, g2, g3⟩ := box4 hSw.1; obtain ⟨f0, f1⟩ := box2 hSw.2.1; have hsl := hSw.1.1; have hsl2 := hSw.2.1.1; go_simp) hS ?_
      try simp only [Act.put, List.setIfInBounds_toArray, List.set_cons_zero, List.set_cons_succ]
      refine takeT 4 58 [12, 13] (.agg #[.int .i64 (t + 1), .int .i64 k, .int .i64 o, .int .i64 n]) calm_np rfl rfl (by kernel_rfl) (by rfl) (by kernel_rfl) (by kernel_rfl) (by kernel_rfl) (by kernel_rfl) (by rfl) (fun w' hSw => by obtain ⟨g0, g1, g2, g3⟩ := box4 hSw.1; obtain ⟨f0, f1⟩ := box2 hSw.2.1; have hsl := hSw.1.1; have hsl2 := hSw.2.1.1; go_simp) hS ?_
      try simp only [Act.put, List.setIfInBounds_toArray, List.set_cons_zero, List.set_cons_succ]
      refine takeT 9 63 [12, 13] (.pointer (some ⟨bx, 0, none⟩)) calm_np rfl rfl (by kernel_rfl) (by rfl) (by kernel_rfl) (by kernel_rfl) (by kernel_rfl) (by kernel_rfl) (by rfl) (fun w' hSw => by go_simp) hS ?_
      try simp only [Act.put, List.setIfInBounds_toArray, List.set_cons_zero, List.set_cons_succ]
      refine takeT 10 64 [12, 13] (.int .i64 (t + 1)) calm_np rfl rfl (by kernel_rfl) (by rfl) (by kernel_rfl) (by kernel_rfl) (by kernel_rfl) (by kernel_rfl) (by rfl) (fun w' hSw => by obtain ⟨g0, g1, g2, g3⟩ := box4 hSw.1; obtain ⟨f0, f1⟩ := box2 hSw.2.1; have hsl := hSw.1.1; have hsl2 := hSw.2.1.1; go_simp) hS ?_
      try simp only [Act.put, List.setIfInBounds_toArray, List.set_cons_zero, List.set_cons_succ]
      refine till_ready (rs := [5]) (by kernel_rfl) (by simp) (Each.cons rfl (fun K hK => ?_) Each.nil)
      go_simp
      have hba := al WD (.cells #[.int .i64 (t + 1), .int .i64 k, .int .i64 o, .int .i64 n] 30)
      have hone := URow.one WD ⟨t + 1, k, o, n⟩
      dsimp only at hone
      generalize WD.alloc (.cells #[.int .i64 (t + 1), .int .i64 k, .int .i64 o, .int .i64 n] 30) = W4 at hba hone ⊢
      have hS4 := hgo _ (below_trans HWD.out hba)
      refine hK.out _ _ (fun _ => hS4) ?_
      clear hK hS
      have hS := hS4
      try simp only [Act.put, List.setIfInBounds_toArray, List.set_cons_zero, List.set_cons_succ]
      have HONE := Lib.hid hone
      have HD4 := Lib.hid (below_trans HWD.out hba)
      clear hone hba hS4
      refine till_ready (rs := [6]) (by kernel_rfl) (by simp) (Each.cons rfl (fun K hK => ?_) Each.nil)
      go_simp
      have hbx := Box.made W4 [.slice a l.length cap, .slice (some ⟨WD.heap.size, 0, none⟩) 1 1] 22
      have hba := al W4 (.cells #[.slice a l.length cap, .slice (some ⟨WD.heap.size, 0, none⟩) 1 1] 22)
      obtain ⟨W5, hW5⟩ : ∃ W, W4.alloc (.cells #[.slice a l.length cap, .slice (some ⟨WD.heap.size, 0, none⟩) 1 1] 22) = W := ⟨_, rfl⟩
      have hbx5 : Box W4.heap.size [.slice a l.length cap, .slice (some ⟨WD.heap.size, 0, none⟩) 1 1] W5 := hW5 ▸ hbx
      rw [hW5] at hba
      rw [hW5]
      have hS5 := hgo _ (below_trans HD4.out hba)
      refine hK.out _ _ (fun _ => hS5) ?_
      clear hK hS hW5 hbx
      have hS := hS5
      try simp only [Act.put, List.setIfInBounds_toArray, List.set_cons_zero, List.set_cons_succ]
      have HCC := Lib.hid (ConcatU_two (cap := 2) hbx5 (by omega) (HROW.out _ (below_trans HD4.out hba)) (HONE.out.below hba) (by omega) (by simp))
      have HD5 := Lib.hid (below_trans HD4.out hba)
      clear hba hS5 hbx5
      refine till_ready (rs := [7]) (by kernel_rfl) (by simp) (Each.cons rfl (fun K hK => ?_) Each.nil)
      go_simp
      (with_reducible refine HCC.out.mono ?_)
      rintro e W6 ⟨v6, rfl, hown, hz⟩
      obtain ⟨a6, n6, c6, rfl⟩ : ∃ a n c, v6 = .slice a n c := (by obtain ⟨a', c', e⟩ := hown.row.slice; exact ⟨a', _, c', e⟩)
      have hS6 := hgo _ (below_trans HD5.out hz)
      go_simp
      refine hK.out _ _ (fun _ => hS6) ?_
      clear hK hS
      have hS := hS6
      try simp only [Act.put, List.setIfInBounds_toArray, List.set_cons_zero, List.set_cons_succ]
      have hge : w.heap.size + 1 < W5.heap.size := by have := HD5.out.size; have := HRS.out.1; omega
      have HO := Lib.hid (hown.mono (B' := w.heap.size + 2) (by omega))
      have HD6 := Lib.hid (below_trans HB3.out (below_trans HD5.out hz))
      have hr6 := HRS.out.below (below_trans HD5.out hz)
      clear hown hz hS6 hge
      refine takeT 8 62 [12, 13] (.agg #[.int .i64 (t + 1), .slice a6 n6 c6]) calm_np rfl rfl (by kernel_rfl) (by rfl) (by kernel_rfl) (by kernel_rfl) (by kernel_rfl) (by kernel_rfl) (by rfl) (fun w' hSw => by go_simp) hS ?_
      try simp only [Act.put, List.setIfInBounds_toArray, List.set_cons_zero, List.set_cons_succ]
      obtain ⟨y0, y1⟩ := box2 hr6
      obtain ⟨z0, z1⟩ := frz2 hr6
      have hsz := hr6.1
      have HE := Lib.hid (below_two (b := w.heap.size + 1) (.int .i64 (t + 1)) (.slice a6 n6 c6) HD6.out (by omega))
      have HO2 := Lib.hid (((HO.out.far (by omega : w.heap.size + 1 < w.heap.size + 2) 0 (.int .i64 (t + 1))).far (by omega : w.heap.size + 1 < w.heap.size + 2) 1 (.slice a6 n6 c6)).mono (B' := w.heap.size) (by omega))
      refine till_ready (rs := [11]) (by kernel_rfl) (by simp) (Each.cons rfl (fun K hK => ?_) Each.nil)
      go_simp
      have hS7 : Box bx [.int .i64 (t + 1), .int .i64 k, .int .i64 o, .int .i64 n] ((W6.setCell ⟨w.heap.size + 1, 0, none⟩ (.int .i64 (t + 1))).setCell ⟨w.heap.size + 1, 1, none⟩ (.slice a6 n6 c6)) ∧ Box w.heap.size (bcs t (.slice a l.length cap)) ((W6.setCell ⟨w.heap.size + 1, 0, none⟩ (.int .i64 (t + 1))).setCell ⟨w.heap.size + 1, 1, none⟩ (.slice a6 n6 c6)) ∧ True := ⟨box_set_other (box_set_other hS.1 (by omega) _) (by omega) _, box_set_other (box_set_other hS.2.1 (by omega) _) (by omega) _, trivial⟩
      refine hK.out _ _ (fun _ => hS7) ?_
      clear hK hS7
      try simp only [Act.put, List.setIfInBounds_toArray, List.set_cons_zero, List.set_cons_succ]
      refine till_ready (rs := [12]) (by kernel_rfl) (by simp) (Each.cons rfl (fun K hK => ?_) Each.nil)
      go_simp
      refine hK.out _ _ (fun h => by cases h) ?_
      clear hK
      try simp only [Act.put, List.setIfInBounds_toArray, List.set_cons_zero, List.set_cons_succ]
      refine till_ready (rs := [13]) (by kernel_rfl) (by simp) (Each.cons rfl (fun K hK => ?_) Each.nil)
      go_simp
      refine hK.out _ _ (fun h => by cases h) ?_
      clear hK
      try simp only [Act.put, List.setIfInBounds_toArray, List.set_cons_zero, List.set_cons_succ]
      refine till_done (by kernel_rfl) ?_ _
      refine NoPanic.normal ?_
      go_wp2_with fail
      exact bodyPost_ret (by simp [results, Try.results6, go_sem, bv, y0, y1]) rfl ⟨.slice a6 n6 c6, rfl, by unfold put; exact HO2.out, HE.out⟩
end Go.Proofs.Ytlhepocjcdbhjaa.Outbox
