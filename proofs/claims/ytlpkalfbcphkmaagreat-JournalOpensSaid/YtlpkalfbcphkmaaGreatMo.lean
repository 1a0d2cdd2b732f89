/-
  Joined: Scan, JOpen, JRight, JAppend.
-/
import Derived.Test.YtlpkalfbcphkmaaGreatMn
import Derived.Maps.AppendAt
import Derived.Sort.QuietIn

/-
  Contracts of Scan and All (package frame): the records of a text, as far as they are whole, and how many bytes they have.
-/
namespace Go.Proofs.YtlpkalfbcphkmaaGreat.Frame
open Go.ChangeShapes Go.WideShapes Go.ChangeAt Go.RowKit Go.Lib Go.Shelf
attribute [local go_sem] Oper.semAt_some

/-- The records handed on. -/
def recs (xs : List PR) : List ByteArray := xs.map Prod.fst
theorem recs_len (xs : List PR) : (recs xs).length = xs.length := by simp [recs]
theorem recs_snoc (xs : List PR) (x : PR) : scells (recs (xs ++ [x])) = scells (recs xs) ++ [.string x.1] := by simp [recs, scells]

/-- What stands between two rounds of Scan. -/
def ScanI (w : World) (b0 : Nat) (pre : List PR) (W : World) : Prop :=
  (∃ v, Boxed W w.heap.size 22 v ∧ W.ownsRow b0 9 1 v pre.length (scells (recs pre)) ∧ (v = .slice none 0 0 ↔ pre = [])) ∧ Boxed W (w.heap.size + 1) 3 (.int .i64 (endOf pre)) ∧ Below w.heap.size w W ∧ b0 ≤ W.heap.size
theorem boxed_ownF {β : Type} (B : Nat) (t : TypeId) (f : β → Value) : Own (fun s W => Boxed W B t (f s)) := fun s X Y row hs hg hrow =>
  hs.kept hg (fun e' => by obtain ⟨o, ho, hc⟩ := hrow B e'.symm; rw [show X.heap[B]? = _ from hs] at ho; cases ho; cases hc)
theorem scanI_own (w : World) (b0 B : Nat) (hB : w.heap.size ≤ B) : OwnFrom B (ScanI w b0) :=
  OwnFrom.and (Own.from (holdsRow_own b0 w.heap.size 22 9 1 (fun pre : List PR => pre.length) (fun pre => scells (recs pre)) (fun pre v => v = .slice none 0 0 ↔ pre = [])) _)
    (OwnFrom.and (Own.from (boxed_ownF _ _ _) _) (OwnFrom.and (ownFrom_below (Nat.le_refl _) hB) (fun _ _ _ _ hs hg _ => Nat.le_trans hs hg.size)))
theorem scan_step {w W w1 : World} {b0 : Nat} (hb0 : w.heap.size + 1 + 1 + 1 ≤ b0) {pre : List PR} {x : PR} {v v' : Value} {tmp : Obj} {c : Value}
    (hv : Boxed W w.heap.size 22 v) (hrow : W.ownsRow b0 9 1 v pre.length (scells (recs pre))) (hE : Boxed W (w.heap.size + 1) 3 c) (hB : Below w.heap.size w W) (hz : b0 ≤ W.heap.size)
    (hown' : w1.ownsRow b0 9 1 v' (pre.length + 1) (scells (recs pre) ++ [.string x.1])) (hgrow : (W.alloc tmp).grownBy w1 v.ownBlock) :
    Boxed w1 w.heap.size 22 v ∧ Boxed (w1.setCell ⟨w.heap.size, 0, none⟩ v') (w.heap.size + 1) 3 c ∧
    KeepsOthers W ((w1.setCell ⟨w.heap.size, 0, none⟩ v').setCell ⟨w.heap.size + 1, 0, none⟩ (.int .i64 x.2)) ∧
    KeepB (w.heap.size + 1 + 1) w.heap.size W ((w1.setCell ⟨w.heap.size, 0, none⟩ v').setCell ⟨w.heap.size + 1, 0, none⟩ (.int .i64 x.2)) ∧
    ScanI w b0 (pre ++ [x]) ((w1.setCell ⟨w.heap.size, 0, none⟩ v').setCell ⟨w.heap.size + 1, 0, none⟩ (.int .i64 x.2)) := by
  have hsz : W.heap.size ≤ w1.heap.size := by have := hgrow.size; simp at this; omega
  have hlow : Below b0 W w1 := ((Below.refl b0 W).alloc hz tmp).grown hgrow (by simp; omega) fun j ej => (hrow.lt j ej).1
  have hv1 : Boxed w1 w.heap.size 22 v := (hlow.block _ (by omega)).trans hv
  have hE1 : Boxed w1 (w.heap.size + 1) 3 c := (hlow.block _ (by omega)).trans hE
  have hnot : ∀ j, j < b0 → v'.ownBlock ≠ some j := fun j hj e => by have := (hown'.lt j e).1; omega
  have hE2 : Boxed (w1.setCell ⟨w.heap.size, 0, none⟩ v') (w.heap.size + 1) 3 c := hE1.kept (grownBy_setCell' _ _ _) (by simp)
  have hv2 : Boxed (w1.setCell ⟨w.heap.size, 0, none⟩ v') w.heap.size 22 v' := hv1.set v'
  have hw1 : Below w.heap.size W w1 := hlow.mono (by omega)
  refine ⟨hv1, hE2, ?_, ⟨?_, ?_⟩, ⟨v', ?_, ?_, ?_⟩, ?_, ?_, ?_⟩
  · refine (((KeepsOthers.alloc W tmp).trans (KeepsOthers.of_grownBy hgrow fun j o ej hj => ?_)).trans (KeepsOthers.setCell _ _ _)).trans (KeepsOthers.setCell _ _ _)
    rcases (hrow.alloc tmp).2 with ⟨rfl, _⟩ | ⟨g, cap, cur, rfl, _, hgb, _⟩
    · simp [Value.ownBlock] at ej
    · obtain rfl : g = j := by simpa [Value.ownBlock] using ej
      rw [hgb] at hj; cases hj; rfl
  · exact (hw1.setCell (p := ⟨w.heap.size, 0, none⟩) (by simp) _).setCell (p := ⟨w.heap.size + 1, 0, none⟩) (by simp) _
  · rw [(grownBy_setCell' (w1.setCell ⟨w.heap.size, 0, none⟩ v') (w.heap.size + 1) (.int .i64 x.2)).block _ ?_ (by simp), (grownBy_setCell' w1 w.heap.size v').block _ ?_ (by simp; omega), hlow.block _ (by omega)]
    · omega
    · have := (grownBy_setCell' w1 w.heap.size v').size; omega
  · exact hv2.kept (grownBy_setCell' _ _ _) (by simp)
  · rw [recs_snoc, List.length_append]
    exact (hown'.kept (grownBy_setCell' w1 w.heap.size v') (.inr (hnot _ (by omega)))).kept (grownBy_setCell' _ _ _) (.inr (hnot _ (by omega)))
  · obtain ⟨g', cap', rfl⟩ := ownsRow_succ hown'
    simp
  · rw [endOf_snoc]; exact hE2.set _
  · exact hB.trans ((hw1.setCell (p := ⟨w.heap.size, 0, none⟩) (by simp) _).setCell (p := ⟨w.heap.size + 1, 0, none⟩) (by simp) _)
  · have h1 := (grownBy_setCell' w1 w.heap.size v').size
    have h2 := (grownBy_setCell' (w1.setCell ⟨w.heap.size, 0, none⟩ v') (w.heap.size + 1) (.int .i64 x.2)).size
    omega
theorem owns_lower {w : World} {b b' : Nat} {e : TypeId} {n : Nat} {v : Value} {xs : List Value} (h : w.ownsRow b e 1 v n xs) (hb : b' ≤ b) : w.ownsRow b' e 1 v n xs := by
  obtain ⟨h1, h2 | ⟨g, cap, cur, e1, e2, rest⟩⟩ := h
  · exact ⟨h1, .inl h2⟩
  · exact ⟨h1, .inr ⟨g, cap, cur, e1, by omega, rest⟩⟩

/-- The records of a text, and a number. -/
def RowN (ls : List ByteArray) (n : Int) (w : World) (e : Ending) (w' : World) : Prop :=
  ∃ v, e = .returned (.tuple #[v, .int .i64 n]) ∧ w'.ownsRow w.heap.size 9 1 v ls.length (scells ls) ∧ (v = .slice none 0 0 ↔ ls = []) ∧ Below w.heap.size w w'

set_option maxRecDepth 100000 in
set_option maxHeartbeats 2000000 in
theorem Scan_hands {s : ByteArray} {xs : List PR} {t : ByteArray} (hH : Hands s.size s xs t) (hs : s.size ≤ 1000000) (w : World) : Calls Tryz.prog 65 #[.string s] w (RowN (recs xs) (endOf xs) w) := by
  obtain ⟨i0, hi, hz0, hz1, hz2⟩ := info_parts Tryz.info9
  have hxl : xs.length ≤ 1000000 := by
    have := (scn_bytes (hands_scn hH)).2.2
    rw [List.length_map] at this; omega
  refine (callsIn_wide (n := 5)).1 ?_
  refine callsIn_of_wp_marks Tryz.func65 rfl trivial ?_ rfl
  simp only [Tryz.ntmps65, List.size_toArray, List.length_cons, List.length_nil, Nat.reduceAdd, Nat.reduceSub, Array.replicate_succ, Array.replicate_zero, List.push_toArray, List.append_toArray, List.nil_append, List.cons_append]
  gi_wp2_with fail
  refine ⟨trivial, (callsIn_wide.2 (whole_any s _)).mono ?_⟩
  rintro e x ⟨rfl, rfl⟩
  gi_wp2_with fail
  have bO := (Boxed.new w 22 (.slice none 0 0)).alloc (.cells #[.int .i64 0] 3) |>.alloc (.cells #[.string s] 9)
  have bE := (Boxed.new (w.alloc (.cells #[.slice none 0 0] 22)) 3 (.int .i64 0)).alloc (.cells #[.string s] 9)
  have bS := Boxed.new ((w.alloc (.cells #[.slice none 0 0] 22)).alloc (.cells #[.int .i64 0] 3)) 9 (.string s)
  have hB0 : Below w.heap.size w (((w.alloc (.cells #[.slice none 0 0] 22)).alloc (.cells #[.int .i64 0] 3)).alloc (.cells #[.string s] 9)) :=
    (((Below.refl _ w).alloc (Nat.le_refl _) _).alloc (by simp) _).alloc (by simp; omega) _
  have hW0 : (((w.alloc (.cells #[.slice none 0 0] 22)).alloc (.cells #[.int .i64 0] 3)).alloc (.cells #[.string s] 9)).heap.size = w.heap.size + 1 + 1 + 1 := by simp
  simp only [World.size_alloc] at bE bS
  generalize (((w.alloc (.cells #[.slice none 0 0] 22)).alloc (.cells #[.int .i64 0] 3)).alloc (.cells #[.string s] 9)) = W0 at bO bE bS hB0 hW0 ⊢
  refine wpIn_rangeFunc_ownG rfl (by omega) (gf := 103) (lb := #[.pointer (some ⟨w.heap.size + 1 + 1, 0, none⟩)]) rfl trivial (enters_of Tryz.func103 (by kernel_rfl) rfl)
    (whole_stops _ (by omega) (w.heap.size + 1 + 1) w.heap.size s xs t (by unfold maxLen; omega) hH W0 (by omega) (by omega) bS.cell) KeepB.trans (KeepB.put (by omega) (by omega)) (Below.refl _ _) (fun _ => rfl)
    (ScanI w W0.heap.size) (fun _ _ _ => False) (scanI_own w _ _ (by omega)) (fun _ _ _ _ _ hs _ _ => hs)
    ⟨⟨_, bO, World.ownsRow_nil _ _ _ _, by simp⟩, bE, hB0, Nat.le_refl _⟩
    (fun x => { tmps := #[.string s, undef, .slice none 0 0, .int .i64 0, .pointer (some ⟨w.heap.size, 0, none⟩), .pointer (some ⟨w.heap.size + 1, 0, none⟩), .string x.1, .int .i64 x.2, .string s, .func (.func 103) #[] #[.pointer (some ⟨w.heap.size + 1 + 1, 0, none⟩)], .string x.1, .int .i64 x.2, undef, undef, undef, undef, undef, undef, undef], defers := [] }) ?assign ?body ?done ?stop
  case assign =>
    intro l x W K hK
    simp only [encPR]
    gi_wp2
    exact hK
  case body =>
    rintro l pre x W ⟨⟨v, hv, hrow, hnil⟩, hE, hB, hz⟩ hlt
    have hc := hv.cell
    have HS := Lib.hid (fun (v' : Value) (w1 : World) (tmp : Obj) h1 h2 => scan_step (w1 := w1) (x := x) (v' := v') (tmp := tmp) (by omega) hv hrow hE hB hz h1 h2)
    clear hE hB hnil
    gi_wp2_with (gi_at_builtin; refine wpListIn_append_own _ rfl _ _ 22 rfl W0.heap.size 9 i0 (.string ⟨#[]⟩) 1 16 Tryz.underlying22 hi hz0 hz1 hz2 rfl (by decide) _ _ _ rfl (hrow.alloc _) ⟨W.heap.size, 0, none⟩ 1 1 [.string x.1] rfl rfl (cell_one_new _ _ _) (by simp [Value.oneCell']) (by unfold maxLen; omega) (by omega) (by simp; omega) ?_; intro v' w1 hown' hgrow _; have HR := HS.out v' w1 _ hown' hgrow; obtain ⟨g', cap', rfl⟩ := ownsRow_succ hown'; have hc1 := HR.1.cell; have hf1 := HR.1.frozen; have hc2 := HR.2.1.cell; have hf2 := HR.2.1.frozen)
    exact ⟨HR.2.2.1.from _, HR.2.2.2.1, HR.2.2.2.2⟩
  case done =>
    rintro D ys W hD rfl ⟨⟨v, hv, hrow, hnil⟩, hE, hB, hz⟩ hK
    have hc := hv.cell
    have hce := hE.cell
    gi_wp2
    gi_quiet (fail)
    gi_wp2
    have hdr : (W.drewN nq).heap[D]? = some (.deferred (some [])) := hK
    refine ⟨by simp, .inl ⟨_, _, rfl, run_takeDeferred hdr, ?_⟩⟩
    have hgd : W.grownBy (W.drewN nq) none := grown_of_below (below_drew W nq)
    refine ⟨_, by simp [results, Tryz.results65, go_sem]; rfl, ?_⟩
    rw [← recs_len] at hrow
    exact ⟨v, rfl, owns_lower (ownsRow_putObj (hrow.kept hgd (by cases hv : v.ownBlock <;> simp)) _ hdr rfl) (b := W0.heap.size) (by omega), hnil.trans (by simp [recs]), (hB.grown hgd (by omega) (by simp)).trans (belowK_b (w := w) (Nat.le_refl _) _ D _ _ (by omega) hdr rfl rfl)⟩
  case stop =>
    rintro D c pre W _ _ h _
    exact h.elim

theorem Scan_scn {s : ByteArray} {l : List ByteArray} {t : ByteArray} (h : Scn s l t) (hs : s.size ≤ 1000000) (w : World) : Calls Tryz.prog 65 #[.string s] w (RowN l ((s.size : Int) - t.size) w) := by
  obtain ⟨xs, t', hH⟩ := hands_some s.size s.size s (Nat.le_refl _)
  obtain ⟨rfl, rfl⟩ := scn_det h (hands_scn hH)
  have he : endOf xs = (s.size : Int) - t.size := by
    rcases hands_end hH with ⟨rfl, rfl⟩ | ⟨_, he⟩
    · simp [endOf]
    · exact he
  rw [← he]
  exact Scan_hands hH hs w

set_option maxRecDepth 100000 in
set_option maxHeartbeats 1000000 in
theorem All_scn {s : ByteArray} {l : List ByteArray} {t : ByteArray} (h : Scn s l t) (hs : s.size ≤ 1000000) (w : World) : Calls Tryz.prog 32 #[.string s] w (RowN (if t.size = 0 then l else []) (if t.size = 0 then 0 else 6) w) := by
  have HS := Lib.hid (fun W => Scan_scn h hs W)
  have hts := (scn_bytes h).2.2
  by_cases h0 : t.size = 0
  · have hn : ((s.size : Int) - t.size) = s.size := by omega
    rw [hn] at HS
    rw [if_pos h0, if_pos h0]
    clear h
    go_enter Tryz.func32, Tryz.ntmps32
    go_wp2_with (go_at_call 65; (with_reducible refine (HS.out _).mono ?_); rintro e x1 ⟨v, rfl, ho, hn, hx1⟩)
    go_ret2
    exact ⟨v, rfl, ho, hn, hx1⟩
  · rw [if_neg h0, if_neg h0]
    obtain ⟨k, hk⟩ : ∃ k : Int, (s.size : Int) - t.size = k := ⟨_, rfl⟩
    have hk1 : k < s.size := by omega
    rw [hk] at HS
    clear h
    go_enter Tryz.func32, Tryz.ntmps32
    go_wp2_with (go_at_call 65; (with_reducible refine (HS.out _).mono ?_); rintro e x1 ⟨v, rfl, ho, hn, hx1⟩)
    go_ret2
    exact ⟨_, rfl, World.ownsRow_nil _ _ _ _, by simp, hx1⟩
end Go.Proofs.YtlpkalfbcphkmaaGreat.Frame

/-
  Contract of Open (package journal): the journal that a disk has.
-/
namespace Go.Proofs.YtlpkalfbcphkmaaGreat.Disk.Jn
open Go.ChangeShapes Go.WideShapes Go.ChangeAt Go.RowKit Go.Lib
open Go.Proofs.YtlpkalfbcphkmaaGreat.Frame (frm frms frms_append frms_snoc frm_pos frm_len frm_le size_list mk_list mk_size mk_of Frame_yes Scn scn_pre scn_bytes scn_some no_short RowN All_scn)

/-- A journal in new blocks, and an error's number, are returned. -/
def JE (ls : List ByteArray) (ws : List (Int × ByteArray)) (s h u : Int) (g l : List ByteArray) (k : Int) (w : World) (e : Ending) (w' : World) : Prop :=
  ∃ vS vW vG vR, e = .returned (.tuple #[jv vS vW s h u vG vR, .int .i64 k]) ∧ (SRow w' vS ls ∧ From w.heap.size vS) ∧ (WRow w' vW ws ∧ From w.heap.size vW) ∧ (SRow w' vG g ∧ From w.heap.size vG) ∧ (SRow w' vR l ∧ From w.heap.size vR) ∧ Below w.heap.size w w'
/-- Why a disk does not open. -/
def Fails (ls : List ByteArray) (ws : List (Int × ByteArray)) (k : Int) : Prop :=
  (k = 1 ∧ (rightB ls ws = false ∨ ls.length < 8 ∨ 0 < ws.length)) ∨
  (k = 5 ∧ rightB ls [] = true ∧ 8 ≤ ls.length ∧ ws = [] ∧ NoHead ls) ∨
  (k = 6 ∧ rightB ls [] = true ∧ 8 ≤ ls.length ∧ ws = [] ∧ ∃ t, Newest ls t ∧ ∀ l, (∀ d ∈ l, d.size ≤ 4096) → (bytesOf ls t.half).take t.used ≠ frms l)
theorem open_or (ls : List ByteArray) (ws : List (Int × ByteArray)) : (∃ k, Fails ls ws k) ∨ (ws = [] ∧ ∃ t l, Opens ls t l) := by
  by_cases h1 : rightB ls ws = true
  case neg => exact .inl ⟨1, .inl ⟨rfl, .inl (by simpa using h1)⟩⟩
  by_cases h2 : ls.length < 8
  · exact .inl ⟨1, .inl ⟨rfl, .inr (.inl h2)⟩⟩
  by_cases h3 : 0 < ws.length
  · exact .inl ⟨1, .inl ⟨rfl, .inr (.inr h3)⟩⟩
  obtain rfl : ws = [] := List.length_eq_zero_iff.1 (by omega)
  have hl := (rightB_t.1 h1).2.1
  rcases newest_or ls (by omega) with h4 | ⟨t, h4⟩
  · exact .inl ⟨5, .inr (.inl ⟨rfl, h1, by omega, rfl, h4⟩)⟩
  by_cases h5 : ∃ l, (∀ d ∈ l, d.size ≤ 4096) ∧ (bytesOf ls t.half).take t.used = frms l
  · obtain ⟨l, h6, h7⟩ := h5
    exact .inr ⟨rfl, t, l, h1, by omega, h4, h7, h6⟩
  · exact .inl ⟨6, .inr (.inr ⟨rfl, h1, by omega, rfl, t, h4, fun l h6 h7 => h5 ⟨l, h6, h7⟩⟩)⟩

def z7 : List Value := [.slice none 0 0, .slice none 0 0, .int .i64 0, .int .i64 0, .int .i64 0, .slice none 0 0, .slice none 0 0]
/-- Open's blocks: the disk, the result. -/
def OSt (w : World) (vS vW : Value) (W : World) : Prop := Below w.heap.size w W ∧ Box w.heap.size [vS, vW] W ∧ Box (w.heap.size + 1) z7 W
theorem OSt.made (w : World) (vS vW : Value) : OSt w vS vW ((w.alloc (.cells #[vS, vW] 25)).alloc (.cells #[.slice none 0 0, .slice none 0 0, .int .i64 0, .int .i64 0, .int .i64 0, .slice none 0 0, .slice none 0 0] 27)) := by
  have h1 := Box.made (w.alloc (.cells #[vS, vW] 25)) z7 27
  simp only [World.size_alloc] at h1
  exact ⟨below_trans (al _ _) (al _ _), (Box.made w [vS, vW] 25).below (al _ _), h1⟩
theorem OSt.below {w W W' : World} {vS vW : Value} (h : OSt w vS vW W) (hb : Below W.heap.size W W') : OSt w vS vW W' := ⟨below_trans h.1 hb, h.2.1.below hb, h.2.2.below hb⟩
theorem OSt.zero {w W : World} {vS vW : Value} (h : OSt w vS vW W) :
    Box (w.heap.size + 1) z7 (((((((W.setCell ⟨w.heap.size + 1, 0, none⟩ (.slice none 0 0)).setCell ⟨w.heap.size + 1, 1, none⟩ (.slice none 0 0)).setCell ⟨w.heap.size + 1, 2, none⟩ (.int .i64 0)).setCell ⟨w.heap.size + 1, 3, none⟩ (.int .i64 0)).setCell ⟨w.heap.size + 1, 4, none⟩ (.int .i64 0)).setCell ⟨w.heap.size + 1, 5, none⟩ (.slice none 0 0)).setCell ⟨w.heap.size + 1, 6, none⟩ (.slice none 0 0)) ∧
    Below w.heap.size w (((((((W.setCell ⟨w.heap.size + 1, 0, none⟩ (.slice none 0 0)).setCell ⟨w.heap.size + 1, 1, none⟩ (.slice none 0 0)).setCell ⟨w.heap.size + 1, 2, none⟩ (.int .i64 0)).setCell ⟨w.heap.size + 1, 3, none⟩ (.int .i64 0)).setCell ⟨w.heap.size + 1, 4, none⟩ (.int .i64 0)).setCell ⟨w.heap.size + 1, 5, none⟩ (.slice none 0 0)).setCell ⟨w.heap.size + 1, 6, none⟩ (.slice none 0 0)) :=
  ⟨h.2.2.st7 _ _ _ _ _ _ _, below_st7 h.1 (by omega) _ _ _ _ _ _ _⟩
theorem je_zero {w w' : World} {k : Int} (h : Below w.heap.size w w') : JE [] [] 0 0 0 [] [] k w (.returned (.tuple #[.agg #[.slice none 0 0, .slice none 0 0, .int .i64 0, .int .i64 0, .int .i64 0, .slice none 0 0, .slice none 0 0], .int .i64 k])) w' :=
  ⟨_, _, _, _, rfl, ⟨.inl ⟨rfl, rfl⟩, from_nil _⟩, ⟨.inl ⟨rfl, rfl⟩, from_nil _⟩, ⟨.inl ⟨rfl, rfl⟩, from_nil _⟩, ⟨.inl ⟨rfl, rfl⟩, from_nil _⟩, h⟩

set_option maxHeartbeats 2000000 in
set_option maxRecDepth 100000 in
theorem Open_arg {vS vW : Value} {ls : List ByteArray} {ws : List (Int × ByteArray)} {w : World} (hS : SRow w vS ls) (hW : WRow w vW ws) (hr : smallP ls ws) (hf : rightB ls ws = false ∨ ls.length < 8 ∨ 0 < ws.length) : Calls Tryz.prog 8 #[.agg #[vS, vW]] w (JE [] [] 0 0 0 [] [] 1 w) := by
  have HR := Lib.hid (fun W (h : Below w.heap.size w W) => Right_any (hS.below h) (hW.below h) hr)
  obtain ⟨aS, cap, rfl⟩ := hS.slice
  obtain ⟨aW, capW, rfl⟩ := hW.slice
  have HA := Lib.hid (OSt.made w (.slice aS ls.length cap) (.slice aW ws.length capW))
  have HF := Lib.hid hf
  have hn := hr.1
  have hm := hr.2.1
  clear hS hW hf hr
  go_enter Tryz.func8, Tryz.ntmps8
  go_wp2_with fail
  refine (HR.out _ HA.out.1).mono ?_
  rintro e X ⟨rfl, hx⟩
  have HX := Lib.hid (HA.out.below hx)
  clear hx HA HR
  obtain ⟨b0, b1⟩ := HX.out.2.1.c2
  obtain ⟨f0, f1, f2, f3, f4, f5, f6⟩ := HX.out.2.2.f7
  obtain ⟨r0, r1, r2, r3, r4, r5, r6⟩ := HX.out.2.2.c7
  have HZ := Lib.hid HX.out.zero
  generalize rightB ls ws = rb at HF ⊢
  have hcases : rb = false ∨ (rb = true ∧ ls.length < 8) ∨ (rb = true ∧ ¬ ls.length < 8 ∧ 0 < ws.length) := by
    have := HF.out
    cases rb
    · exact .inl rfl
    · rcases this with h | h | h
      · cases h
      · exact .inr (.inl ⟨rfl, h⟩)
      · by_cases c : ls.length < 8
        · exact .inr (.inl ⟨rfl, c⟩)
        · exact .inr (.inr ⟨rfl, c, h⟩)
  clear HF
  rcases hcases with rfl | ⟨rfl, hlt⟩ | ⟨rfl, hlt, hw⟩
  all_goals
    go_wp2_with fail
    obtain ⟨z0, z1, z2, z3, z4, z5, z6⟩ := HZ.out.1.c7
    exact bodyPost_ret (v := .tuple #[.agg #[.slice none 0 0, .slice none 0 0, .int .i64 0, .int .i64 0, .int .i64 0, .slice none 0 0, .slice none 0 0], .int .i64 1]) (by simp [results, Tryz.results8, go_sem, z0, z1, z2, z3, z4, z5, z6]) rfl (je_zero HZ.out.2)

set_option maxHeartbeats 2000000 in
set_option maxRecDepth 100000 in
theorem Open_none {vS vW : Value} {ls : List ByteArray} {w : World} (hS : SRow w vS ls) (hW : WRow w vW []) (hb : rightB ls [] = true) (h8 : 8 ≤ ls.length) (hno : NoHead ls) : Calls Tryz.prog 8 #[.agg #[vS, vW]] w (JE [] [] 0 0 0 [] [] 5 w) := by
  have hP := rightB_t.1 hb
  have hn : ls.length ≤ 1000 := by have := hP.2.1; omega
  have hr : smallP ls [] := ⟨hn, by simp, fun j h => by rw [hP.2.2.2.1 j h]; omega, fun j h => by simp at h⟩
  have HR := Lib.hid (fun W (h : Below w.heap.size w W) => hb ▸ Right_any (hS.below h) (hW.below h) hr)
  have HN := Lib.hid (fun W (h : Below w.heap.size w W) => newest_any (vW := vW) (hS.below h) h8 hn (secs_of hb) (o := none) (fun t => ⟨(fun e => by cases e), fun h => absurd h (newest_no hno)⟩))
  obtain ⟨aS, cap, rfl⟩ := hS.slice
  obtain ⟨aW, capW, rfl⟩ := hW.slice
  have HA := Lib.hid (OSt.made w (.slice aS ls.length cap) (.slice aW 0 capW))
  clear hS hW hr hP hno
  go_enter Tryz.func8, Tryz.ntmps8
  go_wp2_with fail
  refine (HR.out _ HA.out.1).mono ?_
  rintro e X ⟨rfl, hx⟩
  have HX := Lib.hid (HA.out.below hx)
  clear hx HA HR
  obtain ⟨b0, b1⟩ := HX.out.2.1.c2
  go_wp2_with fail
  refine (HN.out _ HX.out.1).mono ?_
  rintro e Y ⟨rfl, hy⟩
  rw [show tv none = .agg #[.int .i64 0, .int .i64 0, .int .i64 0] from rfl, show (none : Option Told).isSome = false from rfl]
  have HY := Lib.hid (HX.out.below (below_trans hy (al Y (.cells #[.int .i64 0, .int .i64 0, .int .i64 0] 63))))
  clear hy b0 b1
  have HZ := Lib.hid HY.out.zero
  obtain ⟨f0, f1, f2, f3, f4, f5, f6⟩ := HY.out.2.2.f7
  obtain ⟨r0, r1, r2, r3, r4, r5, r6⟩ := HY.out.2.2.c7
  go_wp2_with fail
  obtain ⟨z0, z1, z2, z3, z4, z5, z6⟩ := HZ.out.1.c7
  exact bodyPost_ret (v := .tuple #[.agg #[.slice none 0 0, .slice none 0 0, .int .i64 0, .int .i64 0, .int .i64 0, .slice none 0 0, .slice none 0 0], .int .i64 5]) (by simp [results, Tryz.results8, go_sem, z0, z1, z2, z3, z4, z5, z6]) rfl (je_zero HZ.out.2)

/-- What frame.All tells of a half's first bytes. -/
theorem all_of {bs : ByteArray} {l : List ByteArray} {t : ByteArray} (h : Scn bs l t) : (t.size = 0 → bs.data.toList = frms l ∧ ∀ d ∈ l, d.size ≤ 4096) ∧ (t.size ≠ 0 → ∀ m, (∀ d ∈ m, d.size ≤ 4096) → bs.data.toList ≠ frms m) := by
  obtain ⟨h1, h2, _⟩ := scn_bytes h
  refine ⟨fun h0 => ⟨?_, h2⟩, fun h0 m hm e => h0 ?_⟩
  · rw [h1]
    have : t.data.toList = [] := List.length_eq_zero_iff.1 (by rw [size_list]; exact h0)
    rw [this, List.append_nil]
  · have := (Go.Proofs.YtlpkalfbcphkmaaGreat.Frame.scn_det h (by have := scn_frms m hm; rwa [← e, mk_of] at this)).2
    rw [this]; rfl

theorem Box.keep7 {b g : Nat} {vs : List Value} {W : World} (h : Box b vs W) (hne : b ≠ g) (u0 u1 u2 u3 u4 u5 u6 : Value) : Box b vs
    (((((((W.setCell ⟨g, 0, none⟩ u0).setCell ⟨g, 1, none⟩ u1).setCell ⟨g, 2, none⟩ u2).setCell ⟨g, 3, none⟩ u3).setCell ⟨g, 4, none⟩ u4).setCell ⟨g, 5, none⟩ u5).setCell ⟨g, 6, none⟩ u6) :=
  ((((((h.other hne _).other hne _).other hne _).other hne _).other hne _).other hne _).other hne _
theorem SRow.st7 {b : Nat} {v : Value} {l : List ByteArray} {W : World} (h : SRow W v l) (hf : From (b + 1) v) (u0 u1 u2 u3 u4 u5 u6 : Value) : SRow
    (((((((W.setCell ⟨b, 0, none⟩ u0).setCell ⟨b, 1, none⟩ u1).setCell ⟨b, 2, none⟩ u2).setCell ⟨b, 3, none⟩ u3).setCell ⟨b, 4, none⟩ u4).setCell ⟨b, 5, none⟩ u5).setCell ⟨b, 6, none⟩ u6) v l :=
  ((((((h.stored hf).stored hf).stored hf).stored hf).stored hf).stored hf).stored hf
theorem open_end {w W : World} {vS0 vW0 vS vR : Value} {ls l : List ByteArray} (h : OSt w vS0 vW0 W) (hS : SRow W vS ls ∧ From (w.heap.size + 1 + 1) vS) (hR : SRow W vR l ∧ From (w.heap.size + 1 + 1) vR) (s h_ u : Int) :
    Box (w.heap.size + 1) [vS, .slice none 0 0, .int .i64 s, .int .i64 h_, .int .i64 u, .slice none 0 0, vR] (((((((W.setCell ⟨w.heap.size + 1, 0, none⟩ vS).setCell ⟨w.heap.size + 1, 1, none⟩ (.slice none 0 0)).setCell ⟨w.heap.size + 1, 2, none⟩ (.int .i64 s)).setCell ⟨w.heap.size + 1, 3, none⟩ (.int .i64 h_)).setCell ⟨w.heap.size + 1, 4, none⟩ (.int .i64 u)).setCell ⟨w.heap.size + 1, 5, none⟩ (.slice none 0 0)).setCell ⟨w.heap.size + 1, 6, none⟩ vR) ∧
    JE ls [] s h_ u [] l 0 w (.returned (.tuple #[.agg #[vS, .slice none 0 0, .int .i64 s, .int .i64 h_, .int .i64 u, .slice none 0 0, vR], .int .i64 0])) (((((((W.setCell ⟨w.heap.size + 1, 0, none⟩ vS).setCell ⟨w.heap.size + 1, 1, none⟩ (.slice none 0 0)).setCell ⟨w.heap.size + 1, 2, none⟩ (.int .i64 s)).setCell ⟨w.heap.size + 1, 3, none⟩ (.int .i64 h_)).setCell ⟨w.heap.size + 1, 4, none⟩ (.int .i64 u)).setCell ⟨w.heap.size + 1, 5, none⟩ (.slice none 0 0)).setCell ⟨w.heap.size + 1, 6, none⟩ vR) :=
  ⟨h.2.2.st7 _ _ _ _ _ _ _, _, _, _, _, rfl, ⟨SRow.st7 hS.1 hS.2 _ _ _ _ _ _ _, hS.2.mono (by omega)⟩, ⟨.inl ⟨rfl, rfl⟩, from_nil _⟩, ⟨.inl ⟨rfl, rfl⟩, from_nil _⟩, ⟨SRow.st7 hR.1 hR.2 _ _ _ _ _ _ _, hR.2.mono (by omega)⟩, below_st7 h.1 (by omega) _ _ _ _ _ _ _⟩
/-- A row of frame's. -/
theorem row_of_own {B : Nat} {v : Value} {l : List ByteArray} {W : World} (h : W.ownsRow B 9 1 v l.length (Go.Proofs.YtlpkalfbcphkmaaGreat.scells l)) : SRow W v l ∧ From B v := ⟨OwnS.row (B := B) h, from_ownS (B := B) h⟩

/-- The journal of a disk, or none. -/
def OpenE (ls : List ByteArray) (t : Told) (l : List ByteArray) (k : Int) (w : World) (e : Ending) (w' : World) : Prop := (k = 0 → JE ls [] t.seals t.half t.used [] l 0 w e w') ∧ (k = 6 → JE [] [] 0 0 0 [] [] 6 w e w')
set_option maxHeartbeats 2000000 in
set_option maxRecDepth 100000 in
theorem Open_head {vS vW : Value} {ls : List ByteArray} {w : World} (hS : SRow w vS ls) (hW : WRow w vW []) (hb : rightB ls [] = true) (h8 : 8 ≤ ls.length) {t : Told} (hnw : Newest ls t) {l : List ByteArray} {k : Int}
    (hk : (k = 0 ∧ (bytesOf ls t.half).take t.used = frms l ∧ ∀ d ∈ l, d.size ≤ 4096) ∨ (k = 6 ∧ l = [] ∧ ∀ m, (∀ d ∈ m, d.size ≤ 4096) → (bytesOf ls t.half).take t.used ≠ frms m)) :
    Calls Tryz.prog 8 #[.agg #[vS, vW]] w (OpenE ls t l k w) := by
  have hP := rightB_t.1 hb
  have hn : ls.length ≤ 1000 := by have := hP.2.1; omega
  have hr : smallP ls [] := ⟨hn, by simp, fun j h => by rw [hP.2.2.2.1 j h]; omega, fun j h => by simp at h⟩
  have hmay := hnw.1.1
  have HR := Lib.hid (fun W (h : Below w.heap.size w W) => hb ▸ Right_any (hS.below h) (hW.below h) hr)
  have HN := Lib.hid (fun W (h : Below w.heap.size w W) => newest_any (vW := vW) (hS.below h) h8 hn (secs_of hb) (o := some t) (fun t' => ⟨(fun e => by cases e; exact hnw), fun h => by rw [newest_det hn hnw h]⟩))
  have HH := Lib.hid (fun W (h : Below w.heap.size w W) => halfOf_any (vW := vW) (hS.below h) h8 hn (secs_of hb) hmay.1)
  have hlen := bytesOf_len (secs_of hb) h8 hmay.1
  have hroom : roomN ls.length ≤ 64000 := by unfold roomN hsN; omega
  obtain ⟨bl, hbl⟩ : ∃ bl : ByteArray, (⟨(bytesOf ls t.half).toArray⟩ : ByteArray) = bl := ⟨_, rfl⟩
  have hbs : bl.size = roomN ls.length := by rw [← hbl, mk_size, hlen]
  have hcut : (bl.extract 0 t.used).data.toList = (bytesOf ls t.half).take t.used := by
    rw [Go.Proofs.YtlpkalfbcphkmaaGreat.Frame.cut_list, ← hbl, mk_list]; simp
  obtain ⟨sl, st, hsc⟩ := scn_some _ (bl.extract 0 t.used) (Nat.le_refl _)
  have HAL := Lib.hid (fun W => All_scn hsc (by rw [ByteArray.size_extract]; omega) W)
  have hall := all_of hsc
  rw [hcut] at hall
  have hK : (k = 0 ∧ st.size = 0 ∧ sl = l) ∨ (k = 6 ∧ st.size ≠ 0) := by
    rcases hk with ⟨rfl, h1, h2⟩ | ⟨rfl, _, h1⟩
    · left
      have h0 : st.size = 0 := by
        apply Classical.byContradiction
        intro hc
        exact hall.2 hc l h2 h1
      exact ⟨rfl, h0, frms_inj (hall.1 h0).2 h2 ((hall.1 h0).1.symm.trans h1)⟩
    · right
      exact ⟨rfl, fun h0 => h1 sl (hall.1 h0).2 (hall.1 h0).1⟩
  rw [hbl] at HH
  have HC := Lib.hid (fun W (h : Below w.heap.size w W) => CloneS_any (hS.below h) hn)
  obtain ⟨aS, cap, rfl⟩ := hS.slice
  obtain ⟨aW, capW, rfl⟩ := hW.slice
  rw [List.length_nil] at HN HH
  have HA := Lib.hid (OSt.made w (.slice aS ls.length cap) (.slice aW 0 capW))
  have hu : t.used ≤ bl.size := by rw [hbs]; exact hmay.2.2.2
  have hbm : bl.size ≤ 64000 := by omega
  clear hS hW hr hP hnw hk hlen hbl hcut hsc hall hbs
  go_enter Tryz.func8, Tryz.ntmps8
  go_wp2_with fail
  refine (HR.out _ HA.out.1).mono ?_
  rintro e X ⟨rfl, hx⟩
  have HX := Lib.hid (HA.out.below hx)
  clear hx HA HR
  obtain ⟨b0, b1⟩ := HX.out.2.1.c2
  go_wp2_with fail
  refine (HN.out _ HX.out.1).mono ?_
  rintro e Y ⟨rfl, hy⟩
  rw [show tv (some t) = .agg #[.int .i64 t.half, .int .i64 t.seals, .int .i64 t.used] from rfl, show (some t : Option Told).isSome = true from rfl]
  have HY := Lib.hid (HX.out.below (below_trans hy (al Y (.cells #[.int .i64 t.half, .int .i64 t.seals, .int .i64 t.used] 63))))
  have HT := Lib.hid (Box.made Y [.int .i64 t.half, .int .i64 t.seals, .int .i64 t.used] 63)
  have HYX := Lib.hid (Nat.le_trans HX.out.2.2.1 hy.size)
  clear hy b0 b1
  go_upto_region 6 with (fail)
  change Hid (Box Y.heap.size _ (Y.alloc (.cells #[.int .i64 t.half, .int .i64 t.seals, .int .i64 t.used] 63))) at HT
  generalize (Y.alloc (.cells #[.int .i64 t.half, .int .i64 t.seals, .int .i64 t.used] 63)) = Z at HY HT ⊢
  generalize Y.heap.size = tb at HT HYX ⊢
  obtain ⟨b0, b1⟩ := HY.out.2.1.c2
  obtain ⟨t0, t1, t2⟩ := HT.out.c3
  have HSF := Lib.hid (fun W' (hb : Below Z.heap.size Z W') => And.intro (HY.out.2.1.below hb).c2 (HT.out.below hb).c3)
  have HBD := Lib.hid ((Below.refl Z.heap.size Z).drew)
  have i1 : (0 : Int) ≤ (t.used : Int) := by omega
  have i2 : (t.used : Int) ≤ (bl.size : Int) := by omega
  have hb1 : w.heap.size + 1 < Z.heap.size := HY.out.2.2.1
  have HYD := Lib.hid (below_trans HY.out.1 HBD.out)
  rcases hK with ⟨rfl, h0, rfl⟩ | ⟨rfl, h0⟩
  · rw [if_pos h0, if_pos h0] at HAL
    go_region_held3 (fun w' => (w'.cell? ⟨w.heap.size, 0, none⟩ = some (.slice aS ls.length cap) ∧ w'.cell? ⟨w.heap.size, 1, none⟩ = some (.slice aW 0 capW)) ∧ w'.cell? ⟨tb, 0, none⟩ = some (.int .i64 t.half) ∧ w'.cell? ⟨tb, 1, none⟩ = some (.int .i64 t.seals) ∧ w'.cell? ⟨tb, 2, none⟩ = some (.int .i64 t.used))
      (first | exact HSF.out _ HBD.out | exact HSF.out _ HB1.out | exact HSF.out _ HB2.out | fail)
      (first
        | (go_at_call 33; (with_reducible refine (HH.out _ HYD.out).mono ?_); rintro e V ⟨rfl, hv⟩; have HB1 := Lib.hid (below_trans HBD.out hv); clear hv)
        | (go_at_call 32; (with_reducible refine (HAL.out _).mono ?_); rintro e U ⟨vR, rfl, ho, _, hv⟩; have HRW := Lib.hid (row_of_own ho); have HB2 := Lib.hid (below_trans HB1.out hv); have HVS := Lib.hid (Nat.le_trans hb1 HB1.out.size); clear hv ho)
        | fail)
    clear b0 b1 t0 t1 t2
    go_wp2_with fail
    obtain ⟨aR, capR, rfl⟩ := HRW.out.1.slice
    have HU := Lib.hid (HY.out.below HB2.out)
    have HTU := Lib.hid (Box.below HT.out HB2.out)
    have HRD := Lib.hid (And.intro (HRW.out.1.below ((Below.refl _ _).drew)) (HRW.out.2))
    obtain ⟨b0, b1⟩ := HU.out.2.1.c2
    obtain ⟨t0, t1, t2⟩ := HTU.out.c3
    have HUD := Lib.hid ((Below.refl U.heap.size U).drew)
    have HUW := Lib.hid (below_trans HU.out.1 HUD.out)
    have HSG := Lib.hid (fun W' (hb : Below U.heap.size U W') => And.intro (HU.out.2.1.below hb).c2 (HTU.out.below hb).c3)
    have HSK : Hid (∀ W', Below U.heap.size U W' → ∀ u0 u1 u2 u3 u4 u5 u6 : Value, _) := fun W' (hb : Below U.heap.size U W') (u0 u1 u2 u3 u4 u5 u6 : Value) => And.intro ((HU.out.2.1.below hb).keep7 (g := w.heap.size + 1) (by omega) u0 u1 u2 u3 u4 u5 u6).c2 ((HTU.out.below hb).keep7 (g := w.heap.size + 1) (by have := HYX.out; omega) u0 u1 u2 u3 u4 u5 u6).c3
    go_region_held3 (fun w' => (w'.cell? ⟨w.heap.size, 0, none⟩ = some (.slice aS ls.length cap) ∧ w'.cell? ⟨w.heap.size, 1, none⟩ = some (.slice aW 0 capW)) ∧ w'.cell? ⟨tb, 0, none⟩ = some (.int .i64 t.half) ∧ w'.cell? ⟨tb, 1, none⟩ = some (.int .i64 t.seals) ∧ w'.cell? ⟨tb, 2, none⟩ = some (.int .i64 t.used))
      (first | with_reducible exact HSG.out _ HUD.out | with_reducible exact HSG.out _ HC1.out | with_reducible exact HSK.out _ HC1.out _ _ _ _ _ _ _ | fail)
      (first
        | (go_at_call 34; (with_reducible refine (HC.out _ HUW.out).mono ?_); rintro e V2 ⟨vC, rfl, hoC, hc⟩; obtain ⟨aC, capC, rfl⟩ := hoC.row.slice; have HC1 := Lib.hid (below_trans HUD.out hc); have HCO := Lib.hid hoC; obtain ⟨f0, f1, f2, f3, f4, f5, f6⟩ := (HU.out.below HC1.out).2.2.f7; obtain ⟨r0, r1, r2, r3, r4, r5, r6⟩ := (HU.out.below HC1.out).2.2.c7; clear hc hoC)
        | fail)
    have HEND := Lib.hid (open_end (HU.out.below HC1.out) ⟨HCO.out.row, (from_ownS HCO.out).mono (by have := HU.out.2.2.1; show _ ≤ U.heap.size; omega)⟩ ⟨HRW.out.1.below HC1.out, HRW.out.2.mono (by have := HVS.out; omega)⟩ t.seals t.half t.used)
    clear f0 f1 f2 f3 f4 f5 f6 r0 r1 r2 r3 r4 r5 r6
    go_wp2_with fail
    obtain ⟨z0, z1, z2, z3, z4, z5, z6⟩ := HEND.out.1.c7
    exact bodyPost_ret (v := .tuple #[.agg #[.slice aC ls.length capC, .slice none 0 0, .int .i64 t.seals, .int .i64 t.half, .int .i64 t.used, .slice none 0 0, .slice aR sl.length capR], .int .i64 0]) (by simp [results, Tryz.results8, go_sem, z0, z1, z2, z3, z4, z5, z6]) rfl ⟨fun _ => HEND.out.2, fun h => absurd h (by decide)⟩
  · rw [if_neg h0, if_neg h0] at HAL
    go_region_held3 (fun w' => (w'.cell? ⟨w.heap.size, 0, none⟩ = some (.slice aS ls.length cap) ∧ w'.cell? ⟨w.heap.size, 1, none⟩ = some (.slice aW 0 capW)) ∧ w'.cell? ⟨tb, 0, none⟩ = some (.int .i64 t.half) ∧ w'.cell? ⟨tb, 1, none⟩ = some (.int .i64 t.seals) ∧ w'.cell? ⟨tb, 2, none⟩ = some (.int .i64 t.used))
      (first | exact HSF.out _ HBD.out | exact HSF.out _ HB1.out | exact HSF.out _ HB2.out | fail)
      (first
        | (go_at_call 33; (with_reducible refine (HH.out _ HYD.out).mono ?_); rintro e V ⟨rfl, hv⟩; have HB1 := Lib.hid (below_trans HBD.out hv); clear hv)
        | (go_at_call 32; (with_reducible refine (HAL.out _).mono ?_); rintro e U ⟨vR, rfl, ho, _, hv⟩; have HRW := Lib.hid (row_of_own ho); have HB2 := Lib.hid (below_trans HB1.out hv); have HVS := Lib.hid (Nat.le_trans hb1 HB1.out.size); clear hv ho)
        | fail)
    clear b0 b1 t0 t1 t2
    have HU := Lib.hid (HY.out.below HB2.out)
    have HZ := Lib.hid HU.out.zero
    obtain ⟨f0, f1, f2, f3, f4, f5, f6⟩ := HU.out.2.2.f7
    obtain ⟨r0, r1, r2, r3, r4, r5, r6⟩ := HU.out.2.2.c7
    clear HRW
    go_wp2_with fail
    obtain ⟨z0, z1, z2, z3, z4, z5, z6⟩ := HZ.out.1.c7
    exact bodyPost_ret (v := .tuple #[.agg #[.slice none 0 0, .slice none 0 0, .int .i64 0, .int .i64 0, .int .i64 0, .slice none 0 0, .slice none 0 0], .int .i64 6]) (by simp [results, Tryz.results8, go_sem, z0, z1, z2, z3, z4, z5, z6]) rfl ⟨fun h => absurd h (by decide), fun _ => je_zero HZ.out.2⟩
theorem Open_yes {vS vW : Value} {ls : List ByteArray} {w : World} (hS : SRow w vS ls) (hW : WRow w vW []) {t : Told} {l : List ByteArray} (h : Opens ls t l) : Calls Tryz.prog 8 #[.agg #[vS, vW]] w (JE ls [] t.seals t.half t.used [] l 0 w) :=
  (Open_head hS hW h.1 h.2.1 h.2.2.1 (.inl ⟨rfl, h.2.2.2.1, h.2.2.2.2⟩)).mono fun _ _ h => h.1 rfl
theorem Open_no {vS vW : Value} {ls : List ByteArray} {ws : List (Int × ByteArray)} {w : World} (hS : SRow w vS ls) (hW : WRow w vW ws) (hr : smallP ls ws) {k : Int} (h : Fails ls ws k) : Calls Tryz.prog 8 #[.agg #[vS, vW]] w (JE [] [] 0 0 0 [] [] k w) := by
  rcases h with ⟨rfl, h⟩ | ⟨rfl, h1, h2, rfl, h3⟩ | ⟨rfl, h1, h2, rfl, t, h3, h4⟩
  · exact Open_arg hS hW hr h
  · exact Open_none hS hW h1 h2 h3
  · exact (Open_head hS hW h1 h2 h3 (.inr ⟨rfl, rfl, h4⟩)).mono fun _ _ h => h.2 rfl
end Go.Proofs.YtlpkalfbcphkmaaGreat.Disk.Jn

/-
  Contract of Right (package journal): which journals may be.
-/
namespace Go.Proofs.YtlpkalfbcphkmaaGreat.Disk.Jn
open Go.ChangeShapes Go.WideShapes Go.ChangeAt Go.RowKit Go.Lib
open Go.Proofs.YtlpkalfbcphkmaaGreat.Frame (frm frms)

/-- A journal: its disk, what it says of itself, what waits, its records. -/
structure JN where
  ls : List ByteArray
  ws : List (Int × ByteArray)
  s : Int
  h : Int
  u : Int
  g : List ByteArray
  l : List ByteArray
/-- It lies in memory so. -/
structure JRow (w : World) (vS vW vG vR : Value) (J : JN) : Prop where
  rS : SRow w vS J.ls
  rW : WRow w vW J.ws
  rG : SRow w vG J.g
  rR : SRow w vR J.l
theorem JRow.below {w w' : World} {vS vW vG vR : Value} {J : JN} (h : JRow w vS vW vG vR J) (hb : Below w.heap.size w w') : JRow w' vS vW vG vR J := ⟨h.rS.below hb, h.rW.below hb, h.rG.below hb, h.rR.below hb⟩
structure JSmall (J : JN) : Prop where
  d : smallP J.ls J.ws
  g1 : J.g.length ≤ 1000
  g2 : ∀ d ∈ J.g, d.size ≤ 1000000
  l1 : J.l.length ≤ 100000
/-- A journal may be, with that head. -/
structure May (J : JN) (t : Told) : Prop where
  nw : J.ws = []
  op : Opens J.ls t J.l
  hs : J.s = t.seals
  hh : J.h = t.half
  hu : J.u = t.used
  wt : waitE J.ls.length t.used J.g = 0
theorem opens_recs {ls : List ByteArray} {t : Told} {l : List ByteArray} (h : Opens ls t l) : 5 * l.length ≤ roomN ls.length ∧ roomN ls.length ≤ 32000 := by
  have h1 := opens_len h
  have h2 := bytesOf_len (secs_of h.1) h.2.1 (opens_may h).1
  have h3 := congrArg List.length h.2.2.2.1
  rw [List.length_take, h2] at h3
  have h4 : ∀ m : List ByteArray, 5 * m.length ≤ (frms m).length := by
    intro m
    induction m with
    | nil => simp [frms]
    | cons d m ih =>
      have := Go.Proofs.YtlpkalfbcphkmaaGreat.Frame.frm_pos d
      simp only [frms, List.length_append, List.length_cons]
      omega
  have := h4 l
  refine ⟨by omega, by unfold roomN hsN; omega⟩
theorem may_small {J : JN} {t : Told} (h : May J t) : JSmall J := by
  have hP := rightB_t.1 h.op.1
  have hw := wait_zero.1 h.wt
  have hr := opens_recs h.op
  refine ⟨⟨by have := hP.2.1; omega, by rw [h.nw]; simp, fun j hj => by rw [hP.2.2.2.1 j hj]; omega, fun j hj => by rw [h.nw] at hj; simp at hj⟩, by have := hw.2.1; omega, fun d hd => by have := hw.1 d hd; omega, by omega⟩

/-- Right's blocks. -/
def c7 (vS vW : Value) (s h u : Int) (vG vR : Value) : List Value := [vS, vW, .int .i64 s, .int .i64 h, .int .i64 u, vG, vR]

set_option maxHeartbeats 2000000 in
set_option maxRecDepth 100000 in
theorem Right_fail {vS vW vG vR : Value} {J : JN} {w : World} (hJ : JRow w vS vW vG vR J) (hz : JSmall J) {k : Int} (hf : Fails J.ls J.ws k) : Calls Tryz.prog 11 #[jv vS vW J.s J.h J.u vG vR] w (BoolB false w) := by
  have hk : (k != 0) = true := by rcases hf with ⟨rfl, _⟩ | ⟨rfl, _⟩ | ⟨rfl, _⟩ <;> rfl
  have HO := Lib.hid (fun W (h : Below w.heap.size w W) => Open_no (hJ.rS.below h) (hJ.rW.below h) hz.d hf)
  obtain ⟨aS, cap, rfl⟩ := hJ.rS.slice
  obtain ⟨aW, capW, rfl⟩ := hJ.rW.slice
  have HA := Lib.hid (Box.made w [.slice aS J.ls.length cap, .slice aW J.ws.length capW, .int .i64 J.s, .int .i64 J.h, .int .i64 J.u, vG, vR] 27)
  clear hJ hz hf
  unfold jv
  go_enter Tryz.func11, Tryz.ntmps11
  go_wp2_with fail
  refine (HO.out _ (al _ _)).mono ?_
  rintro e X ⟨vS', vW', vG', vR', rfl, hS', hW', hG', hR', hx⟩
  have HX := Lib.hid (below_trans (al w _) hx)
  obtain ⟨a1, p1, rfl⟩ := hS'.1.slice
  obtain ⟨a2, p2, rfl⟩ := hW'.1.slice
  obtain ⟨a3, p3, rfl⟩ := hG'.1.slice
  obtain ⟨a4, p4, rfl⟩ := hR'.1.slice
  clear hS' hW' hG' hR' hx HA
  unfold jv
  have HE := Lib.hid (below_trans HX.out (al X (.cells #[.slice a1 ([] : List ByteArray).length p1, .slice a2 ([] : List (Int × ByteArray)).length p2, .int .i64 0, .int .i64 0, .int .i64 0, .slice a3 ([] : List ByteArray).length p3, .slice a4 ([] : List ByteArray).length p4] 27)))
  go_wp2_with fail
  go_ret
  exact ⟨rfl, HE.out⟩
set_option maxHeartbeats 4000000 in
set_option maxRecDepth 100000 in
theorem Right_open {vS vW vG vR : Value} {J : JN} {w : World} (hJ : JRow w vS vW vG vR J) (hz : JSmall J) (hw : J.ws = []) {t : Told} {l : List ByteArray} (ho : Opens J.ls t l) {b : Bool}
    (hb : b = true ↔ (J.s = t.seals ∧ J.h = t.half ∧ J.u = t.used ∧ l = J.l ∧ waitE J.ls.length t.used J.g = 0)) : Calls Tryz.prog 11 #[jv vS vW J.s J.h J.u vG vR] w (BoolB b w) := by
  obtain ⟨ls, ws, s, h, u, g, lj⟩ := J
  dsimp only at hw ho hb ⊢
  subst hw
  have h8 := ho.2.1
  have hn : ls.length ≤ 1000 := by have := opens_len ho; omega
  have hl1 := hz.l1
  have hl2 : l.length ≤ 1000000 := by have := opens_recs ho; omega
  have hrm : t.used ≤ 100000 := by have := (opens_may ho).2.2.2; have := opens_recs ho; omega
  have HO := Lib.hid (fun W (h : Below w.heap.size w W) => Open_yes (hJ.rS.below h) (hJ.rW.below h) ho)
  have HRJ := Lib.hid hJ.rR
  have HGJ := Lib.hid hJ.rG
  have HG1 := Lib.hid hz.g1
  have HG2 := Lib.hid hz.g2
  obtain ⟨aS, cap, rfl⟩ := hJ.rS.slice
  obtain ⟨aW, capW, rfl⟩ := hJ.rW.slice
  obtain ⟨aG, capG, rfl⟩ := hJ.rG.slice
  obtain ⟨aR, capR, rfl⟩ := hJ.rR.slice
  dsimp only at HO HRJ HGJ HG1 HG2 hl1 ⊢
  rw [List.length_nil] at HO
  have HA := Lib.hid (Box.made w [.slice aS ls.length cap, .slice aW 0 capW, .int .i64 s, .int .i64 h, .int .i64 u, .slice aG g.length capG, .slice aR lj.length capR] 27)
  have HBB := Lib.hid hb
  clear hJ hz ho hb
  unfold jv
  go_enter Tryz.func11, Tryz.ntmps11
  go_wp2_with fail
  refine (HO.out _ (al _ _)).mono ?_
  rintro e X ⟨vS', vW', vG', vR', rfl, hS', hW', hG', hR', hx⟩
  have HX := Lib.hid (below_trans (al w _) hx)
  have HAX := Lib.hid (Box.below HA.out hx)
  have HRX := Lib.hid hR'.1
  obtain ⟨a1, p1, rfl⟩ := hS'.1.slice
  obtain ⟨a2, p2, rfl⟩ := hW'.1.slice
  obtain ⟨a3, p3, rfl⟩ := hG'.1.slice
  obtain ⟨a4, p4, rfl⟩ := hR'.1.slice
  clear hS' hW' hG' hR' hx HA HO
  unfold jv
  rw [List.length_nil, List.length_nil]
  have HO2 := Lib.hid (Box.made X [.slice a1 ls.length p1, .slice a2 0 p2, .int .i64 t.seals, .int .i64 t.half, .int .i64 t.used, .slice a3 0 p3, .slice a4 l.length p4] 27)
  have HBY := Lib.hid (below_trans HX.out (al X (.cells #[.slice a1 ls.length p1, .slice a2 0 p2, .int .i64 t.seals, .int .i64 t.half, .int .i64 t.used, .slice a3 0 p3, .slice a4 l.length p4] 27)))
  have HAY := Lib.hid (HAX.out.below (al X (.cells #[.slice a1 ls.length p1, .slice a2 0 p2, .int .i64 t.seals, .int .i64 t.half, .int .i64 t.used, .slice a3 0 p3, .slice a4 l.length p4] 27)))
  have HRY := Lib.hid (HRX.out.below (al X (.cells #[.slice a1 ls.length p1, .slice a2 0 p2, .int .i64 t.seals, .int .i64 t.half, .int .i64 t.used, .slice a3 0 p3, .slice a4 l.length p4] 27)))
  go_upto_region 2 with (fail)
  change Hid (Box X.heap.size _ (X.alloc (.cells #[.slice a1 ls.length p1, .slice a2 0 p2, .int .i64 t.seals, .int .i64 t.half, .int .i64 t.used, .slice a3 0 p3, .slice a4 l.length p4] 27))) at HO2
  generalize (X.alloc (.cells #[.slice a1 ls.length p1, .slice a2 0 p2, .int .i64 t.seals, .int .i64 t.half, .int .i64 t.used, .slice a3 0 p3, .slice a4 l.length p4] 27)) = Y at HO2 HBY HAY HRY ⊢
  clear HAX HRX HX
  generalize X.heap.size = ob at HO2 ⊢
  obtain ⟨c0, c1, c2, c3, c4, c5, c6⟩ := HAY.out.c7
  obtain ⟨o0, o1, o2, o3, o4, o5, o6⟩ := HO2.out.c7
  by_cases hs : s = t.seals
  case neg =>
    have hne : ((t.seals : Int) != s) = true := by simp; omega
    have HN : Hid (b = false) := by
      unfold Hid
      rw [Bool.eq_false_iff]
      exact fun h => hs (HBB.out.1 h).1
    clear hs
    go_wp2_with fail
    go_ret
    exact ⟨ret_bool HN.out.symm, HBY.out⟩
  subst hs
  by_cases hh : h = t.half
  case neg =>
    have hne : ((t.half : Int) != h) = true := by simp; omega
    have HN : Hid (b = false) := by
      unfold Hid
      rw [Bool.eq_false_iff]
      exact fun h => hh (HBB.out.1 h).2.1
    clear hh
    go_wp2_with fail
    go_ret
    exact ⟨ret_bool HN.out.symm, HBY.out⟩
  subst hh
  by_cases hu : u = t.used
  case neg =>
    have hne : ((t.used : Int) != u) = true := by simp; omega
    have HN : Hid (b = false) := by
      unfold Hid
      rw [Bool.eq_false_iff]
      exact fun h => hu (HBB.out.1 h).2.2.1
    clear hu
    go_wp2_with fail
    go_ret
    exact ⟨ret_bool HN.out.symm, HBY.out⟩
  subst hu
  have HEQ := Lib.hid (Equal_any HRY.out (HRJ.out.below HBY.out) hl2 (by omega))
  by_cases hl : l = lj
  case neg =>
    rw [decide_eq_false hl] at HEQ
    have HN : Hid (b = false) := by
      unfold Hid
      rw [Bool.eq_false_iff]
      exact fun h => hl (HBB.out.1 h).2.2.2.1
    clear hl
    go_wp2_with fail
    refine HEQ.out.mono ?_
    rintro e Z ⟨rfl, hz⟩
    have HZ := Lib.hid (below_trans HBY.out hz)
    clear hz
    go_wp2_with fail
    go_ret
    exact ⟨ret_bool HN.out.symm, HZ.out⟩
  rw [decide_eq_true hl] at HEQ
  have HN : Hid (b = decide (waitE ls.length t.used g = 0)) := by
    unfold Hid
    rw [Bool.eq_iff_iff, decide_eq_true_eq, HBB.out]
    exact ⟨fun h => h.2.2.2.2, fun h => ⟨rfl, rfl, rfl, hl, h⟩⟩
  clear hl
  go_wp2_with fail
  refine HEQ.out.mono ?_
  rintro e Z ⟨rfl, hz⟩
  have HZ := Lib.hid (below_trans HBY.out hz)
  have HAZ := Lib.hid (HAY.out.below hz)
  clear hz c0 c1 c2 c3 c4 c5 c6 o0 o1 o2 o3 o4 o5 o6 HEQ
  obtain ⟨c0, c1, c2, c3, c4, c5, c6⟩ := HAZ.out.c7
  have HMW := Lib.hid (mayWait_any (aS := aS) (cap := cap) (vW := .slice aW 0 capW) (vG := .slice aG g.length capG) (vR := .slice aR lj.length capR) (s := t.seals) (h := t.half) h8 hn hrm (HGJ.out.below HZ.out) HG1.out HG2.out)
  unfold jv at HMW
  generalize waitE ls.length t.used g = E at HN HMW
  go_wp2_with fail
  refine HMW.out.mono ?_
  rintro e V ⟨rfl, hv⟩
  have HV := Lib.hid (below_trans HZ.out hv)
  clear hv HMW
  go_wp2_with fail
  go_ret
  exact ⟨ret_bool (by rw [HN.out, Bool.eq_iff_iff]; simp), HV.out⟩
/-- Right, of whatever may not be, and of what may. -/
theorem Right_no {vS vW vG vR : Value} {J : JN} {w : World} (hJ : JRow w vS vW vG vR J) (hz : JSmall J) (hno : ∀ t, ¬ May J t) : Calls Tryz.prog 11 #[jv vS vW J.s J.h J.u vG vR] w (BoolB false w) := by
  rcases open_or J.ls J.ws with ⟨k, hf⟩ | ⟨hw, t, l, ho⟩
  · exact Right_fail hJ hz hf
  · refine Right_open hJ hz hw ho ⟨(fun h => by cases h), fun ⟨h1, h2, h3, h4, h5⟩ => absurd ⟨hw, h4 ▸ ho, h1, h2, h3, h5⟩ (hno t)⟩
theorem Right_yes {vS vW vG vR : Value} {J : JN} {w : World} (hJ : JRow w vS vW vG vR J) {t : Told} (h : May J t) : Calls Tryz.prog 11 #[jv vS vW J.s J.h J.u vG vR] w (BoolB true w) :=
  Right_open hJ (may_small h) h.nw h.op ⟨fun _ => ⟨h.hs, h.hh, h.hu, rfl, h.wt⟩, fun _ => rfl⟩
end Go.Proofs.YtlpkalfbcphkmaaGreat.Disk.Jn

/-
  Contract of Append (package journal): a record waits, behind the others.
-/
namespace Go.Proofs.YtlpkalfbcphkmaaGreat.Disk.Jn
open Go.ChangeShapes Go.WideShapes Go.ChangeAt Go.RowKit Go.Lib
open Go.Proofs.YtlpkalfbcphkmaaGreat.Frame (frm frms)

/-- Two blocks of seven cells: the journal that came in, the result. -/
def ASt (w : World) (cs : List Value) (W : World) : Prop := Below w.heap.size w W ∧ Box w.heap.size cs W ∧ Box (w.heap.size + 1) z7 W
theorem ASt.made (w : World) (vS vW : Value) (s h u : Int) (vG vR : Value) : ASt w [vS, vW, .int .i64 s, .int .i64 h, .int .i64 u, vG, vR] ((w.alloc (.cells #[vS, vW, .int .i64 s, .int .i64 h, .int .i64 u, vG, vR] 27)).alloc (.cells #[.slice none 0 0, .slice none 0 0, .int .i64 0, .int .i64 0, .int .i64 0, .slice none 0 0, .slice none 0 0] 27)) := by
  have h1 := Box.made (w.alloc (.cells #[vS, vW, .int .i64 s, .int .i64 h, .int .i64 u, vG, vR] 27)) z7 27
  simp only [World.size_alloc] at h1
  exact ⟨below_trans (al _ _) (al _ _), (Box.made w [vS, vW, .int .i64 s, .int .i64 h, .int .i64 u, vG, vR] 27).below (al _ _), h1⟩
theorem ASt.below {w W W' : World} {cs : List Value} (h : ASt w cs W) (hb : Below W.heap.size W W') : ASt w cs W' := ⟨below_trans h.1 hb, h.2.1.below hb, h.2.2.below hb⟩
theorem ASt.zero {w W : World} {cs : List Value} (h : ASt w cs W) :
    Box (w.heap.size + 1) z7 (((((((W.setCell ⟨w.heap.size + 1, 0, none⟩ (.slice none 0 0)).setCell ⟨w.heap.size + 1, 1, none⟩ (.slice none 0 0)).setCell ⟨w.heap.size + 1, 2, none⟩ (.int .i64 0)).setCell ⟨w.heap.size + 1, 3, none⟩ (.int .i64 0)).setCell ⟨w.heap.size + 1, 4, none⟩ (.int .i64 0)).setCell ⟨w.heap.size + 1, 5, none⟩ (.slice none 0 0)).setCell ⟨w.heap.size + 1, 6, none⟩ (.slice none 0 0)) ∧
    Below w.heap.size w (((((((W.setCell ⟨w.heap.size + 1, 0, none⟩ (.slice none 0 0)).setCell ⟨w.heap.size + 1, 1, none⟩ (.slice none 0 0)).setCell ⟨w.heap.size + 1, 2, none⟩ (.int .i64 0)).setCell ⟨w.heap.size + 1, 3, none⟩ (.int .i64 0)).setCell ⟨w.heap.size + 1, 4, none⟩ (.int .i64 0)).setCell ⟨w.heap.size + 1, 5, none⟩ (.slice none 0 0)).setCell ⟨w.heap.size + 1, 6, none⟩ (.slice none 0 0)) :=
  ⟨h.2.2.st7 _ _ _ _ _ _ _, below_st7 h.1 (by omega) _ _ _ _ _ _ _⟩
theorem ASt.one {w W : World} {cs : List Value} (h : ASt w cs W) {i : Nat} (hi : i < cs.length) (u : Value) : ASt w (cs.set i u) (W.setCell ⟨w.heap.size, i, none⟩ u) :=
  ⟨below_st h.1 (Nat.le_refl _) _ _, h.2.1.one hi u, h.2.2.other (by omega) _⟩
theorem ASt.ends {w W : World} {cs : List Value} (h : ASt w cs W) (u0 u1 u2 u3 u4 u5 u6 : Value) :
    Box (w.heap.size + 1) [u0, u1, u2, u3, u4, u5, u6] (((((((W.setCell ⟨w.heap.size + 1, 0, none⟩ u0).setCell ⟨w.heap.size + 1, 1, none⟩ u1).setCell ⟨w.heap.size + 1, 2, none⟩ u2).setCell ⟨w.heap.size + 1, 3, none⟩ u3).setCell ⟨w.heap.size + 1, 4, none⟩ u4).setCell ⟨w.heap.size + 1, 5, none⟩ u5).setCell ⟨w.heap.size + 1, 6, none⟩ u6) ∧
    Below w.heap.size w (((((((W.setCell ⟨w.heap.size + 1, 0, none⟩ u0).setCell ⟨w.heap.size + 1, 1, none⟩ u1).setCell ⟨w.heap.size + 1, 2, none⟩ u2).setCell ⟨w.heap.size + 1, 3, none⟩ u3).setCell ⟨w.heap.size + 1, 4, none⟩ u4).setCell ⟨w.heap.size + 1, 5, none⟩ u5).setCell ⟨w.heap.size + 1, 6, none⟩ u6) :=
  ⟨h.2.2.st7 _ _ _ _ _ _ _, below_st7 h.1 (by omega) _ _ _ _ _ _ _⟩

set_option maxHeartbeats 2000000 in
set_option maxRecDepth 100000 in
theorem Append_bad {vS vW vG vR : Value} {J : JN} {w : World} (hJ : JRow w vS vW vG vR J) (hz : JSmall J) (hno : ∀ t, ¬ May J t) (d : ByteArray) : Calls Tryz.prog 16 #[jv vS vW J.s J.h J.u vG vR, .string d] w (JE [] [] 0 0 0 [] [] 1 w) := by
  have HR := Lib.hid (fun W (h : Below w.heap.size w W) => Right_no (hJ.below h) hz hno)
  obtain ⟨aS, cap, rfl⟩ := hJ.rS.slice
  obtain ⟨aW, capW, rfl⟩ := hJ.rW.slice
  obtain ⟨aG, capG, rfl⟩ := hJ.rG.slice
  obtain ⟨aR, capR, rfl⟩ := hJ.rR.slice
  have HA := Lib.hid (ASt.made w (.slice aS J.ls.length cap) (.slice aW J.ws.length capW) J.s J.h J.u (.slice aG J.g.length capG) (.slice aR J.l.length capR))
  clear hJ hz hno
  unfold jv at HR ⊢
  go_enter Tryz.func16, Tryz.ntmps16
  go_wp2_with fail
  refine (HR.out _ HA.out.1).mono ?_
  rintro e X ⟨rfl, hx⟩
  have HX := Lib.hid (HA.out.below hx)
  clear hx HA HR
  have HZ := Lib.hid HX.out.zero
  obtain ⟨f0, f1, f2, f3, f4, f5, f6⟩ := HX.out.2.2.f7
  obtain ⟨r0, r1, r2, r3, r4, r5, r6⟩ := HX.out.2.2.c7
  go_wp2_with fail
  obtain ⟨z0, z1, z2, z3, z4, z5, z6⟩ := HZ.out.1.c7
  exact bodyPost_ret (v := .tuple #[.agg #[.slice none 0 0, .slice none 0 0, .int .i64 0, .int .i64 0, .int .i64 0, .slice none 0 0, .slice none 0 0], .int .i64 1]) (by simp [results, Tryz.results16, go_sem, z0, z1, z2, z3, z4, z5, z6]) rfl (je_zero HZ.out.2)

set_option maxHeartbeats 1000000 in
set_option maxRecDepth 100000 in
theorem CloneL_any {v : Value} {ls : List ByteArray} {w : World} (h : SRow w v ls) (hl : ls.length ≤ 100000) : Calls Tryz.prog 34 #[v] w (NewS ls w) := by
  obtain ⟨i0, hi, hz0, hz1, hz2⟩ := info_parts Tryz.infoS
  have H := Lib.hid h
  rcases h with ⟨rfl, rfl⟩ | ⟨g, cap, rfl, hc, hg, hcell⟩
  · have hnil : (binOp .eql 22 (.slice none 0 0) (.slice none 0 0)).run Tryz.prog w = .ok (.bool true) w := run_eql_slice_nil w 22 9 _ _ _ Tryz.underlying22
    go_enter Tryz.func34, Tryz.ntmps34
    go_wp2
    go_ret
    exact ⟨_, rfl, World.ownsRow_nil _ _ _ _, Below.refl _ _⟩
  · have hb : Below w.heap.size w (w.alloc (.cells #[] 9)) := (Below.refl _ _).alloc (Nat.le_refl _) _
    have HB := Lib.hid hb
    have HN := Lib.hid (H.out.below hb).news
    have hnil : (binOp .eql 22 (.slice (some ⟨g, 0, none⟩) ls.length cap) (.slice none 0 0)).run Tryz.prog w = .ok (.bool false) w := run_eql_slice_nil w 22 9 _ _ _ Tryz.underlying22
    clear hcell hb
    go_enter Tryz.func34, Tryz.ntmps34
    go_wp2_with (at_builtin; refine wpList_append_own _ rfl _ _ 22 rfl w.heap.size 9 i0 (.string ⟨#[]⟩) 1 16 Tryz.underlying22 hi hz0 hz1 hz2 rfl (by decide) _ 0 [] rfl (World.ownsRow_made w #[] 0 (Nat.le_refl _) (Nat.zero_le _) rfl) ⟨g, 0, none⟩ ls.length cap (scells ls) rfl ?c0 HN.out (scells_one ls) ?c3 ?c4 ?c5 ?_)
    case c0 => rw [scells_len]; omega
    case c3 => unfold maxLen; omega
    case c4 => omega
    case c5 => simp
    intro v' w1 hown' hgrow _
    have R : OwnS w.heap.size v' ls w1 := hown'
    have B : Below w.heap.size w w1 := HB.out.grown hgrow (by simp) (fun j hj => by cases hj; exact Nat.le_refl _)
    have HR := Lib.hid (And.intro R B)
    clear R B hown' hgrow
    go_wp2
    go_ret
    exact ⟨_, rfl, HR.out.1, HR.out.2⟩

/-- What comes of having a record wait. -/
def AppE (J : JN) (d : ByteArray) (k : Int) (w : World) (e : Ending) (w' : World) : Prop := (k = 0 → JE J.ls [] J.s J.h J.u (J.g ++ [d]) J.l 0 w e w') ∧ (k ≠ 0 → JE [] [] 0 0 0 [] [] k w e w')
/-- The group, and one behind it. -/
theorem app_group {W X w1 : World} {v v' : Value} {g : List ByteArray} {d : ByteArray} {o : Obj} {B : Nat} (hB : B = W.heap.size) (ho : OwnS B v g X) (hx : Below W.heap.size W X) (hown : w1.ownsRow B 9 1 v' (g.length + 1) (scells g ++ [.string d])) (hg : (X.alloc o).grownBy w1 v.ownBlock) :
    OwnS B v' (g ++ [d]) w1 ∧ Below W.heap.size W w1 := by
  refine ⟨?_, ?_⟩
  · unfold OwnS
    rw [scells_snoc, List.length_append]
    exact hown
  · exact (below_trans hx (al X o)).grown hg (by have := hx.size; simp; omega) (fun k e => by have := (World.ownsRow.lt ho k e).1; omega)

set_option maxHeartbeats 4000000 in
set_option maxRecDepth 100000 in
theorem Append_any {vS vW vG vR : Value} {J : JN} {w : World} (hJ : JRow w vS vW vG vR J) {t : Told} (hm : May J t) (d : ByteArray) (hd : d.size ≤ 1000000) : Calls Tryz.prog 16 #[jv vS vW J.s J.h J.u vG vR, .string d] w (AppE J d (waitE J.ls.length t.used (J.g ++ [d])) w) := by
  have hz := may_small hm
  have h8 := hm.op.2.1
  have hn : J.ls.length ≤ 1000 := by have := opens_len hm.op; omega
  have hrm : t.used ≤ 100000 := by have := (opens_may hm.op).2.2.2; have := opens_recs hm.op; omega
  have hg16 : J.g.length ≤ 16 := (wait_zero.1 hm.wt).2.1
  have hgz : ∀ x ∈ J.g ++ [d], x.size ≤ 1000000 := fun x hx => by
    rcases List.mem_append.1 hx with h | h
    · exact hz.g2 x h
    · obtain rfl := List.mem_singleton.1 h; exact hd
  have HR := Lib.hid (fun W (h : Below w.heap.size w W) => Right_yes (hJ.below h) hm)
  have HCG := Lib.hid (fun W (h : Below w.heap.size w W) => CloneS_any (hJ.rG.below h) (by omega))
  have HCS := Lib.hid (fun W (h : Below w.heap.size w W) => CloneS_any (hJ.rS.below h) hn)
  have HCR := Lib.hid (fun W (h : Below w.heap.size w W) => CloneL_any (hJ.rR.below h) (by have := opens_recs hm.op; omega))
  obtain ⟨i0, hi, hz0, hz1, hz2⟩ := info_parts Tryz.infoS
  obtain ⟨aS, cap, rfl⟩ := hJ.rS.slice
  obtain ⟨aW, capW, rfl⟩ := hJ.rW.slice
  obtain ⟨aG, capG, rfl⟩ := hJ.rG.slice
  obtain ⟨aR, capR, rfl⟩ := hJ.rR.slice
  have HA := Lib.hid (ASt.made w (.slice aS J.ls.length cap) (.slice aW J.ws.length capW) J.s J.h J.u (.slice aG J.g.length capG) (.slice aR J.l.length capR))
  have HU := Lib.hid hm.hu
  have HGZ := Lib.hid hgz
  obtain ⟨E, hE⟩ : ∃ E, waitE J.ls.length t.used (J.g ++ [d]) = E := ⟨_, rfl⟩
  have HE := Lib.hid hE
  rw [hE]
  clear hJ hz hm hgz hE
  unfold jv at HR ⊢
  go_enter Tryz.func16, Tryz.ntmps16
  go_wp2_with fail
  refine (HR.out _ HA.out.1).mono ?_
  rintro e W ⟨rfl, hx⟩
  have HW := Lib.hid (HA.out.below hx)
  clear hx HA HR
  obtain ⟨c0, c1, c2, c3, c4, c5, c6⟩ := HW.out.2.1.c7
  go_wp2_with fail
  refine (HCG.out _ HW.out.1).mono ?_
  rintro e X ⟨vC, rfl, hoC, hx⟩
  obtain ⟨aC, capC, rfl⟩ := hoC.row.slice
  have HX := Lib.hid (HW.out.below hx)
  have HGRP := Lib.hid (fun (w1 : World) (v' : Value) o h1 h2 => app_group (d := d) (w1 := w1) (v' := v') (o := o) rfl hoC hx h1 h2)
  have HOC := Lib.hid hoC
  have hXs := hx.size
  clear hx hoC c0 c1 c2 c3 c4 c5 c6
  have HM1 : Hid (J.g.length + 1 ≤ maxLen) := by unfold Hid maxLen; omega
  have HM2 : Hid ((J.g.length + 1) * 16 ≤ 140737488355328) := by unfold Hid; omega
  have HOCX : Hid (X.ownsRow W.heap.size 9 1 (.slice aC J.g.length capC) J.g.length (scells J.g)) := HOC.out
  go_wp2_with (at_builtin; refine wpList_append_own _ rfl _ _ 22 rfl W.heap.size 9 i0 (.string ⟨#[]⟩) 1 16 Tryz.underlying22 hi hz0 hz1 hz2 rfl (by decide) (.slice aC J.g.length capC) J.g.length (scells J.g) rfl (HOCX.out.alloc _) ⟨X.heap.size, 0, none⟩ 1 1 [.string d] rfl rfl ?e1 ?e2 ?e3 ?e4 ?e5 ?_)
  case e1 => exact cell_one_new _ _ _
  case e2 => simp [Value.oneCell']
  case e3 => exact HM1.out
  case e4 => exact HM2.out
  case e5 => simp; omega
  intro v' w1 hown' hgrow _
  have HG := Lib.hid (HGRP.out _ _ _ hown' hgrow)
  clear hown' hgrow
  obtain ⟨aN, capN, rfl⟩ := HG.out.1.row.slice
  have HW1 := Lib.hid (HW.out.below HG.out.2)
  have HGR := Lib.hid (And.intro HG.out.1.row (from_ownS HG.out.1))
  have HWs := Lib.hid HW.out.2.2.1
  clear HG HGRP HOC HOCX HX HM1 HM2 hXs HCG
  obtain ⟨c0, c1, c2, c3, c4, c5, c6⟩ := HW1.out.2.1.c7
  have HMW := Lib.hid (mayWait_any (aS := aS) (cap := cap) (vW := .slice aW J.ws.length capW) (vG := .slice aG J.g.length capG) (vR := .slice aR J.l.length capR) (s := J.s) (h := J.h) (u := t.used) h8 hn hrm HGR.out.1 (by rw [List.length_append, List.length_singleton]; omega) HGZ.out)
  unfold jv at HMW
  rw [← HU.out, HE.out] at HMW
  generalize hgd : J.g ++ [d] = gd at HGR HMW HGZ HE ⊢
  have HGD := Lib.hid hgd
  clear hgd
  go_wp2_with fail
  refine HMW.out.mono ?_
  rintro e V ⟨rfl, hv⟩
  have HV := Lib.hid (HW1.out.below hv)
  have HGV := Lib.hid (And.intro (HGR.out.1.below hv) HGR.out.2)
  clear hv c0 c1 c2 c3 c4 c5 c6 HMW HGR HW1
  by_cases h0 : E = 0
  case neg =>
    have hne : (E != 0) = true := by simpa using h0
    have HNE := Lib.hid h0
    have HZ := Lib.hid HV.out.zero
    obtain ⟨f0, f1, f2, f3, f4, f5, f6⟩ := HV.out.2.2.f7
    obtain ⟨r0, r1, r2, r3, r4, r5, r6⟩ := HV.out.2.2.c7
    clear h0
    go_wp2_with fail
    obtain ⟨z0, z1, z2, z3, z4, z5, z6⟩ := HZ.out.1.c7
    exact bodyPost_ret (v := .tuple #[.agg #[.slice none 0 0, .slice none 0 0, .int .i64 0, .int .i64 0, .int .i64 0, .slice none 0 0, .slice none 0 0], .int .i64 E]) (by simp [results, Tryz.results16, go_sem, z0, z1, z2, z3, z4, z5, z6]) rfl ⟨fun h => absurd h HNE.out, fun _ => je_zero HZ.out.2⟩
  subst h0
  obtain ⟨c0, c1, c2, c3, c4, c5, c6⟩ := HV.out.2.1.c7
  go_wp2_with fail
  refine (HCS.out _ HV.out.1).mono ?_
  rintro e X1 ⟨vS1, rfl, ho1, hx1⟩
  obtain ⟨aS1, capS1, rfl⟩ := ho1.row.slice
  have HS1 := Lib.hid (And.intro ho1.row (from_ownS ho1))
  have HX1 := Lib.hid (HV.out.below hx1)
  have HG1 := Lib.hid (And.intro (HGV.out.1.below hx1) HGV.out.2)
  have HVs := Lib.hid HV.out.2.2.1
  clear ho1 hx1 c0 c1 c2 c3 c4 c5 c6
  obtain ⟨c0, c1, c2, c3, c4, c5, c6⟩ := HX1.out.2.1.c7
  obtain ⟨g0, g1, g2, g3, g4, g5, g6⟩ := HX1.out.2.1.f7
  have HX2 := Lib.hid ((HX1.out.one (i := 0) (by simp) (.slice aS1 J.ls.length capS1)).one (i := 1) (by simp) (.slice none 0 0))
  have hf1 : From (w.heap.size + 1 + 1) (.slice aS1 J.ls.length capS1) := HS1.out.2.mono (by have := HVs.out; omega)
  have hf2 : From (w.heap.size + 1 + 1) (.slice aN gd.length capN) := HG1.out.2.mono (by have := HWs.out; omega)
  have HS2 := Lib.hid (And.intro ((HS1.out.1.stored (i := 0) (u := .slice aS1 J.ls.length capS1) (hf1.mono (Nat.le_succ _))).stored (i := 1) (u := .slice none 0 0) (hf1.mono (Nat.le_succ _))) hf1)
  have HG2 := Lib.hid (And.intro ((HG1.out.1.stored (i := 0) (u := .slice aS1 J.ls.length capS1) (hf2.mono (Nat.le_succ _))).stored (i := 1) (u := .slice none 0 0) (hf2.mono (Nat.le_succ _))) hf2)
  clear hf1 hf2 HS1 HG1 HV HGV HCS HX1
  go_wp2_with fail
  generalize ((X1.setCell ⟨w.heap.size, 0, none⟩ (.slice aS1 J.ls.length capS1)).setCell ⟨w.heap.size, 1, none⟩ (.slice none 0 0)) = X2 at HX2 HS2 HG2 ⊢
  refine (HCR.out _ HX2.out.1).mono ?_
  rintro e X3 ⟨vR3, rfl, ho3, hx3⟩
  obtain ⟨aR3, capR3, rfl⟩ := ho3.row.slice
  have hf3 : From (w.heap.size + 1 + 1) (.slice aR3 J.l.length capR3) := (from_ownS ho3).mono (by have := HX2.out.2.2.1; omega)
  have HX3 := Lib.hid (HX2.out.below hx3)
  have HX5 : Hid (ASt w [.slice aS1 J.ls.length capS1, .slice none 0 0, .int .i64 J.s, .int .i64 J.h, .int .i64 J.u, .slice aN gd.length capN, .slice aR3 J.l.length capR3] ((X3.setCell ⟨w.heap.size, 6, none⟩ (.slice aR3 J.l.length capR3)).setCell ⟨w.heap.size, 5, none⟩ (.slice aN gd.length capN))) :=
    (HX3.out.one (i := 6) (by simp) (.slice aR3 J.l.length capR3)).one (i := 5) (by simp) (.slice aN gd.length capN)
  have HS5 := Lib.hid (((HS2.out.1.below hx3).stored (i := 6) (u := .slice aR3 J.l.length capR3) (HS2.out.2.mono (Nat.le_succ _))).stored (i := 5) (u := .slice aN gd.length capN) (HS2.out.2.mono (Nat.le_succ _)))
  have HG5 := Lib.hid (((HG2.out.1.below hx3).stored (i := 6) (u := .slice aR3 J.l.length capR3) (HG2.out.2.mono (Nat.le_succ _))).stored (i := 5) (u := .slice aN gd.length capN) (HG2.out.2.mono (Nat.le_succ _)))
  have HR5 := Lib.hid ((ho3.row.stored (i := 6) (u := .slice aR3 J.l.length capR3) (hf3.mono (Nat.le_succ _))).stored (i := 5) (u := .slice aN gd.length capN) (hf3.mono (Nat.le_succ _)))
  have HF3 := Lib.hid hf3
  have HF1 := Lib.hid HS2.out.2
  have HF2 := Lib.hid HG2.out.2
  obtain ⟨c0, c1, c2, c3, c4, c5, c6⟩ := HX3.out.2.1.c7
  obtain ⟨g0, g1, g2, g3, g4, g5, g6⟩ := HX3.out.2.1.f7
  clear ho3 hx3 hf3 HS2 HG2 HX2 HCR
  go_upto_region 10 with (fail)
  generalize ((X3.setCell ⟨w.heap.size, 6, none⟩ (.slice aR3 J.l.length capR3)).setCell ⟨w.heap.size, 5, none⟩ (.slice aN gd.length capN)) = X5 at HX5 HS5 HG5 HR5 ⊢
  clear c0 c1 c2 c3 c4 c5 c6 g0 g1 g2 g3 g4 g5 g6 HX3
  obtain ⟨c0, c1, c2, c3, c4, c5, c6⟩ := HX5.out.2.1.c7
  obtain ⟨f0, f1, f2, f3, f4, f5, f6⟩ := HX5.out.2.2.f7
  obtain ⟨r0, r1, r2, r3, r4, r5, r6⟩ := HX5.out.2.2.c7
  have HEND := Lib.hid (HX5.out.ends (.slice aS1 J.ls.length capS1) (.slice none 0 0) (.int .i64 J.s) (.int .i64 J.h) (.int .i64 J.u) (.slice aN gd.length capN) (.slice aR3 J.l.length capR3))
  go_wp2_with fail
  obtain ⟨z0, z1, z2, z3, z4, z5, z6⟩ := HEND.out.1.c7
  refine bodyPost_ret (v := .tuple #[.agg #[.slice aS1 J.ls.length capS1, .slice none 0 0, .int .i64 J.s, .int .i64 J.h, .int .i64 J.u, .slice aN gd.length capN, .slice aR3 J.l.length capR3], .int .i64 0]) (by simp [results, Tryz.results16, go_sem, z0, z1, z2, z3, z4, z5, z6]) rfl ⟨fun _ => ?_, fun h => absurd rfl h⟩
  rw [HGD.out]
  exact ⟨_, _, _, _, rfl, ⟨SRow.st7 HS5.out HF1.out _ _ _ _ _ _ _, HF1.out.mono (by omega)⟩, ⟨.inl ⟨rfl, rfl⟩, from_nil _⟩, ⟨SRow.st7 HG5.out HF2.out _ _ _ _ _ _ _, HF2.out.mono (by omega)⟩, ⟨SRow.st7 HR5.out HF3.out _ _ _ _ _ _ _, HF3.out.mono (by omega)⟩, HEND.out.2⟩
end Go.Proofs.YtlpkalfbcphkmaaGreat.Disk.Jn
