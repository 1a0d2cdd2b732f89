/-
  Contracts of Scan and All (package frame): the records of a text, as far as they are whole, and how many bytes they have.
-/
import Derived.Test.YtbipkbcmcidalaaWhole
import Derived.Maps.AppendAt
import Derived.Sort.QuietIn
namespace Go.Proofs.Ytbipkbcmcidalaa.Frame
open Go.ChangeShapes Go.WideShapes Go.ChangeAt Go.RowKit Go.Lib Go.Shelf
attribute [local go_sem] Oper.semAt_some

/-- The records handed on. -/
def recs (xs : List PR) : List ByteArray := xs.map Prod.fst
theorem recs_len (xs : List PR) : (recs xs).length = xs.length := by simp [recs]
theorem recs_snoc (xs : List PR) (x : PR) : scells (recs (xs ++ [x])) = scells (recs xs) ++ [.string x.1] := by simp [recs, scells]

/-- What stands between two rounds of Scan. -/
def ScanI (w : World) (b0 : Nat) (pre : List PR) (W : World) : Prop :=
  (∃ v, Boxed W w.heap.size 25 v ∧ W.ownsRow b0 9 1 v pre.length (scells (recs pre)) ∧ (v = .slice none 0 0 ↔ pre = [])) ∧ Boxed W (w.heap.size + 1) 3 (.int .i64 (endOf pre)) ∧ Below w.heap.size w W ∧ b0 ≤ W.heap.size
theorem boxed_ownF {β : Type} (B : Nat) (t : TypeId) (f : β → Value) : Own (fun s W => Boxed W B t (f s)) := fun s X Y row hs hg hrow =>
  hs.kept hg (fun e' => by obtain ⟨o, ho, hc⟩ := hrow B e'.symm; rw [show X.heap[B]? = _ from hs] at ho; cases ho; cases hc)
theorem scanI_own (w : World) (b0 B : Nat) (hB : w.heap.size ≤ B) : OwnFrom B (ScanI w b0) :=
  OwnFrom.and (Own.from (holdsRow_own b0 w.heap.size 25 9 1 (fun pre : List PR => pre.length) (fun pre => scells (recs pre)) (fun pre v => v = .slice none 0 0 ↔ pre = [])) _)
    (OwnFrom.and (Own.from (boxed_ownF _ _ _) _) (OwnFrom.and (ownFrom_below (Nat.le_refl _) hB) (fun _ _ _ _ hs hg _ => Nat.le_trans hs hg.size)))
theorem scan_step {w W w1 : World} {b0 : Nat} (hb0 : w.heap.size + 1 + 1 + 1 ≤ b0) {pre : List PR} {x : PR} {v v' : Value} {tmp : Obj} {c : Value}
    (hv : Boxed W w.heap.size 25 v) (hrow : W.ownsRow b0 9 1 v pre.length (scells (recs pre))) (hE : Boxed W (w.heap.size + 1) 3 c) (hB : Below w.heap.size w W) (hz : b0 ≤ W.heap.size)
    (hown' : w1.ownsRow b0 9 1 v' (pre.length + 1) (scells (recs pre) ++ [.string x.1])) (hgrow : (W.alloc tmp).grownBy w1 v.ownBlock) :
    Boxed w1 w.heap.size 25 v ∧ Boxed (w1.setCell ⟨w.heap.size, 0, none⟩ v') (w.heap.size + 1) 3 c ∧
    KeepsOthers W ((w1.setCell ⟨w.heap.size, 0, none⟩ v').setCell ⟨w.heap.size + 1, 0, none⟩ (.int .i64 x.2)) ∧
    KeepB (w.heap.size + 1 + 1) w.heap.size W ((w1.setCell ⟨w.heap.size, 0, none⟩ v').setCell ⟨w.heap.size + 1, 0, none⟩ (.int .i64 x.2)) ∧
    ScanI w b0 (pre ++ [x]) ((w1.setCell ⟨w.heap.size, 0, none⟩ v').setCell ⟨w.heap.size + 1, 0, none⟩ (.int .i64 x.2)) := by
  have hsz : W.heap.size ≤ w1.heap.size := by have := hgrow.size; simp at this; omega
  have hlow : Below b0 W w1 := ((Below.refl b0 W).alloc hz tmp).grown hgrow (by simp; omega) fun j ej => (hrow.lt j ej).1
  have hv1 : Boxed w1 w.heap.size 25 v := (hlow.block _ (by omega)).trans hv
  have hE1 : Boxed w1 (w.heap.size + 1) 3 c := (hlow.block _ (by omega)).trans hE
  have hnot : ∀ j, j < b0 → v'.ownBlock ≠ some j := fun j hj e => by have := (hown'.lt j e).1; omega
  have hE2 : Boxed (w1.setCell ⟨w.heap.size, 0, none⟩ v') (w.heap.size + 1) 3 c := hE1.kept (grownBy_setCell' _ _ _) (by simp)
  have hv2 : Boxed (w1.setCell ⟨w.heap.size, 0, none⟩ v') w.heap.size 25 v' := hv1.set v'
  have hw1 : Below w.heap.size W w1 := hlow.mono (by omega)
  refine ⟨hv1, hE2, ?_, ⟨?_, ?_⟩, ⟨v', ?_, ?_, ?_⟩, ?_, ?_, ?_⟩
  · refine (((KeepsOthers.alloc W tmp).trans (KeepsOthers.of_grownBy hgrow fun j o ej hj => ?_)).trans (KeepsOthers.setCell _ _ _)).trans (KeepsOthers.setCell _ _ _)
    rcases (hrow.alloc tmp).2 with ⟨rfl, _⟩ | ⟨g, cap, cur, rfl, _, hgb, _⟩
    · simp [Value.ownBlock] at ej
    · obtain rfl : g = j := by simpa [Value.ownBlock] using ej
      rw [hgb] at hj; cases hj; rfl
  · exact (hw1.setCell (p := ⟨w.heap.size, 0, none⟩) (by simp) _).setCell (p := ⟨w.heap.size + 1, 0, none⟩) (by simp) _
  · rw [(grownBy_setCell' (w1.setCell ⟨w.heap.size, 0, none⟩ v') (w.heap.size + 1) (.int .i64 x.2)).block _ ?_ (by simp), (grownBy_setCell' w1 w.heap.size v').block _ ?_ (by simp; omega), hlow.block _ (by omega)]
    · omega
    · have := (grownBy_setCell' w1 w.heap.size v').size; omega
  · exact hv2.kept (grownBy_setCell' _ _ _) (by simp)
  · rw [recs_snoc, List.length_append]
    exact (hown'.kept (grownBy_setCell' w1 w.heap.size v') (.inr (hnot _ (by omega)))).kept (grownBy_setCell' _ _ _) (.inr (hnot _ (by omega)))
  · obtain ⟨g', cap', rfl⟩ := ownsRow_succ hown'
    simp
  · rw [endOf_snoc]; exact hE2.set _
  · exact hB.trans ((hw1.setCell (p := ⟨w.heap.size, 0, none⟩) (by simp) _).setCell (p := ⟨w.heap.size + 1, 0, none⟩) (by simp) _)
  · have h1 := (grownBy_setCell' w1 w.heap.size v').size
    have h2 := (grownBy_setCell' (w1.setCell ⟨w.heap.size, 0, none⟩ v') (w.heap.size + 1) (.int .i64 x.2)).size
    omega
theorem owns_lower {w : World} {b b' : Nat} {e : TypeId} {n : Nat} {v : Value} {xs : List Value} (h : w.ownsRow b e 1 v n xs) (hb : b' ≤ b) : w.ownsRow b' e 1 v n xs := by
  obtain ⟨h1, h2 | ⟨g, cap, cur, e1, e2, rest⟩⟩ := h
  · exact ⟨h1, .inl h2⟩
  · exact ⟨h1, .inr ⟨g, cap, cur, e1, by omega, rest⟩⟩

/-- The records of a text, and a number. -/
def RowN (ls : List ByteArray) (n : Int) (w : World) (e : Ending) (w' : World) : Prop :=
  ∃ v, e = .returned (.tuple #[v, .int .i64 n]) ∧ w'.ownsRow w.heap.size 9 1 v ls.length (scells ls) ∧ (v = .slice none 0 0 ↔ ls = []) ∧ Below w.heap.size w w'

set_option maxRecDepth 100000 in
set_option maxHeartbeats 2000000 in
theorem Scan_hands {s : ByteArray} {xs : List PR} {t : ByteArray} (hH : Hands s.size s xs t) (hs : s.size ≤ 1000000) (w : World) : Calls Try.prog 7 #[.string s] w (RowN (recs xs) (endOf xs) w) := by
  obtain ⟨i0, hi, hz0, hz1, hz2⟩ := info_parts Try.info9
  have hxl : xs.length ≤ 1000000 := by
    have := (scn_bytes (hands_scn hH)).2.2
    rw [List.length_map] at this; omega
  refine (callsIn_wide (n := 5)).1 ?_
  refine callsIn_of_wp_marks Try.func7 rfl trivial ?_ rfl
  simp only [Try.ntmps7, List.size_toArray, List.length_cons, List.length_nil, Nat.reduceAdd, Nat.reduceSub, Array.replicate_succ, Array.replicate_zero, List.push_toArray, List.append_toArray, List.nil_append, List.cons_append]
  gi_wp2_with fail
  refine ⟨trivial, (callsIn_wide.2 (whole_any s _)).mono ?_⟩
  rintro e x ⟨rfl, rfl⟩
  gi_wp2_with fail
  have bO := (Boxed.new w 25 (.slice none 0 0)).alloc (.cells #[.int .i64 0] 3) |>.alloc (.cells #[.string s] 9)
  have bE := (Boxed.new (w.alloc (.cells #[.slice none 0 0] 25)) 3 (.int .i64 0)).alloc (.cells #[.string s] 9)
  have bS := Boxed.new ((w.alloc (.cells #[.slice none 0 0] 25)).alloc (.cells #[.int .i64 0] 3)) 9 (.string s)
  have hB0 : Below w.heap.size w (((w.alloc (.cells #[.slice none 0 0] 25)).alloc (.cells #[.int .i64 0] 3)).alloc (.cells #[.string s] 9)) :=
    (((Below.refl _ w).alloc (Nat.le_refl _) _).alloc (by simp) _).alloc (by simp; omega) _
  have hW0 : (((w.alloc (.cells #[.slice none 0 0] 25)).alloc (.cells #[.int .i64 0] 3)).alloc (.cells #[.string s] 9)).heap.size = w.heap.size + 1 + 1 + 1 := by simp
  simp only [World.size_alloc] at bE bS
  generalize (((w.alloc (.cells #[.slice none 0 0] 25)).alloc (.cells #[.int .i64 0] 3)).alloc (.cells #[.string s] 9)) = W0 at bO bE bS hB0 hW0 ⊢
  refine wpIn_rangeFunc_ownG rfl (by omega) (gf := 28) (lb := #[.pointer (some ⟨w.heap.size + 1 + 1, 0, none⟩)]) rfl trivial (enters_of Try.func28 (by kernel_rfl) rfl)
    (whole_stops _ (by omega) (w.heap.size + 1 + 1) w.heap.size s xs t (by unfold maxLen; omega) hH W0 (by omega) (by omega) bS.cell) KeepB.trans (KeepB.put (by omega) (by omega)) (Below.refl _ _) (fun _ => rfl)
    (ScanI w W0.heap.size) (fun _ _ _ => False) (scanI_own w _ _ (by omega)) (fun _ _ _ _ _ hs _ _ => hs)
    ⟨⟨_, bO, World.ownsRow_nil _ _ _ _, by simp⟩, bE, hB0, Nat.le_refl _⟩
    (fun x => { tmps := #[.string s, undef, .slice none 0 0, .int .i64 0, .pointer (some ⟨w.heap.size, 0, none⟩), .pointer (some ⟨w.heap.size + 1, 0, none⟩), .string x.1, .int .i64 x.2, .string s, .func (.func 28) #[] #[.pointer (some ⟨w.heap.size + 1 + 1, 0, none⟩)], .string x.1, .int .i64 x.2, undef, undef, undef, undef, undef, undef, undef], defers := [] }) ?assign ?body ?done ?stop
  case assign =>
    intro l x W K hK
    simp only [encPR]
    gi_wp2
    exact hK
  case body =>
    rintro l pre x W ⟨⟨v, hv, hrow, hnil⟩, hE, hB, hz⟩ hlt
    have hc := hv.cell
    have HS := Lib.hid (fun (v' : Value) (w1 : World) (tmp : Obj) h1 h2 => scan_step (w1 := w1) (x := x) (v' := v') (tmp := tmp) (by omega) hv hrow hE hB hz h1 h2)
    clear hE hB hnil
    gi_wp2_with (gi_at_builtin; refine wpListIn_append_own _ rfl _ _ 25 rfl W0.heap.size 9 i0 (.string ⟨#[]⟩) 1 16 Try.underlying25 hi hz0 hz1 hz2 rfl (by decide) _ _ _ rfl (hrow.alloc _) ⟨W.heap.size, 0, none⟩ 1 1 [.string x.1] rfl rfl (cell_one_new _ _ _) (by simp [Value.oneCell']) (by unfold maxLen; omega) (by omega) (by simp; omega) ?_; intro v' w1 hown' hgrow _; have HR := HS.out v' w1 _ hown' hgrow; obtain ⟨g', cap', rfl⟩ := ownsRow_succ hown'; have hc1 := HR.1.cell; have hf1 := HR.1.frozen; have hc2 := HR.2.1.cell; have hf2 := HR.2.1.frozen)
    exact ⟨HR.2.2.1.from _, HR.2.2.2.1, HR.2.2.2.2⟩
  case done =>
    rintro D ys W hD rfl ⟨⟨v, hv, hrow, hnil⟩, hE, hB, hz⟩ hK
    have hc := hv.cell
    have hce := hE.cell
    gi_wp2
    gi_quiet (fail)
    gi_wp2
    have hdr : (W.drewN nq).heap[D]? = some (.deferred (some [])) := hK
    refine ⟨by simp, .inl ⟨_, _, rfl, run_takeDeferred hdr, ?_⟩⟩
    have hgd : W.grownBy (W.drewN nq) none := grown_of_below (below_drew W nq)
    refine ⟨_, by simp [results, Try.results7, go_sem]; rfl, ?_⟩
    rw [← recs_len] at hrow
    exact ⟨v, rfl, owns_lower (ownsRow_putObj (hrow.kept hgd (by cases hv : v.ownBlock <;> simp)) _ hdr rfl) (b := W0.heap.size) (by omega), hnil.trans (by simp [recs]), (hB.grown hgd (by omega) (by simp)).trans (belowK_b (w := w) (Nat.le_refl _) _ D _ _ (by omega) hdr rfl rfl)⟩
  case stop =>
    rintro D c pre W _ _ h _
    exact h.elim

theorem Scan_scn {s : ByteArray} {l : List ByteArray} {t : ByteArray} (h : Scn s l t) (hs : s.size ≤ 1000000) (w : World) : Calls Try.prog 7 #[.string s] w (RowN l ((s.size : Int) - t.size) w) := by
  obtain ⟨xs, t', hH⟩ := hands_some s.size s.size s (Nat.le_refl _)
  obtain ⟨rfl, rfl⟩ := scn_det h (hands_scn hH)
  have he : endOf xs = (s.size : Int) - t.size := by
    rcases hands_end hH with ⟨rfl, rfl⟩ | ⟨_, he⟩
    · simp [endOf]
    · exact he
  rw [← he]
  exact Scan_hands hH hs w

set_option maxRecDepth 100000 in
set_option maxHeartbeats 1000000 in
theorem All_scn {s : ByteArray} {l : List ByteArray} {t : ByteArray} (h : Scn s l t) (hs : s.size ≤ 1000000) (w : World) : Calls Try.prog 8 #[.string s] w (RowN (if t.size = 0 then l else []) (if t.size = 0 then 0 else 6) w) := by
  have HS := Lib.hid (fun W => Scan_scn h hs W)
  have hts := (scn_bytes h).2.2
  by_cases h0 : t.size = 0
  · have hn : ((s.size : Int) - t.size) = s.size := by omega
    rw [hn] at HS
    rw [if_pos h0, if_pos h0]
    clear h
    go_enter Try.func8, Try.ntmps8
    go_wp2_with (go_at_call 7; (with_reducible refine (HS.out _).mono ?_); rintro e x1 ⟨v, rfl, ho, hn, hx1⟩)
    go_ret2
    exact ⟨v, rfl, ho, hn, hx1⟩
  · rw [if_neg h0, if_neg h0]
    obtain ⟨k, hk⟩ : ∃ k : Int, (s.size : Int) - t.size = k := ⟨_, rfl⟩
    have hk1 : k < s.size := by omega
    rw [hk] at HS
    clear h
    go_enter Try.func8, Try.ntmps8
    go_wp2_with (go_at_call 7; (with_reducible refine (HS.out _).mono ?_); rintro e x1 ⟨v, rfl, ho, hn, hx1⟩)
    go_ret2
    exact ⟨_, rfl, World.ownsRow_nil _ _ _ _, by simp, hx1⟩
end Go.Proofs.Ytbipkbcmcidalaa.Frame
