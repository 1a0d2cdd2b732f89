/-
  Contract of the law's own few: of a disk that came in some few sectors and writes, each cut, in new rows.
-/
import Derived.Test.YthoeidgekogfiaaDiskPut
import Derived.Deep.RegionLaw
namespace Go.Proofs.Ythoeidgekogfiaa.Disk
open Go.ChangeShapes Go.WideShapes Go.ChangeAt Go.RowKit Go.Lib

/-- A slice of texts that came in: its texts, wherever they lie. -/
def ArgS (w : World) (v : Value) : Prop := ∃ (a : Option Addr) (len cap : Nat), v = .slice a len cap ∧ len ≤ cap ∧ cap ≤ 9223372036854775807 ∧
  (0 < len → ∃ b off, a = some ⟨b, off, none⟩ ∧ b < w.heap.size ∧ ∀ j, j < len → ∃ t : ByteArray, t.size ≤ 9223372036854775807 ∧ w.cell? ⟨b, off + j, none⟩ = some (.string t))
/-- A slice of writes that came in. -/
def ArgW (w : World) (v : Value) : Prop := ∃ (a : Option Addr) (len cap : Nat), v = .slice a len cap ∧ len ≤ cap ∧ cap ≤ 9223372036854775807 ∧
  (0 < len → ∃ b off, a = some ⟨b, off, none⟩ ∧ b < w.heap.size ∧ ∀ j, j < len → ∃ (i : Int) (t : ByteArray), t.size ≤ 9223372036854775807 ∧ w.cell? ⟨b, off + j * 2, none⟩ = some (.int .i64 i) ∧ w.cell? ⟨b, off + j * 2 + 1, none⟩ = some (.string t))

theorem ArgS.below {w w' : World} {v : Value} (h : ArgS w v) (hb : Below w.heap.size w w') : ArgS w' v := by
  obtain ⟨a, len, cap, e, h1, h2, h3⟩ := h
  refine ⟨a, len, cap, e, h1, h2, fun h0 => ?_⟩
  obtain ⟨b, off, ea, hbl, hc⟩ := h3 h0
  refine ⟨b, off, ea, Nat.lt_of_lt_of_le hbl hb.size, fun j hj => ?_⟩
  obtain ⟨t, ht, hct⟩ := hc j hj
  exact ⟨t, ht, (hb.cell (p := ⟨b, off + j, none⟩) hbl).trans hct⟩
theorem ArgW.below {w w' : World} {v : Value} (h : ArgW w v) (hb : Below w.heap.size w w') : ArgW w' v := by
  obtain ⟨a, len, cap, e, h1, h2, h3⟩ := h
  refine ⟨a, len, cap, e, h1, h2, fun h0 => ?_⟩
  obtain ⟨b, off, ea, hbl, hc⟩ := h3 h0
  refine ⟨b, off, ea, Nat.lt_of_lt_of_le hbl hb.size, fun j hj => ?_⟩
  obtain ⟨i, t, ht, hct1, hct2⟩ := hc j hj
  exact ⟨i, t, ht, (hb.cell (p := ⟨b, off + j * 2, none⟩) hbl).trans hct1, (hb.cell (p := ⟨b, off + j * 2 + 1, none⟩) hbl).trans hct2⟩

/-- few's blocks: the disk that came in, the result, what is made. -/
def FewB (w : World) (vS vW u v : Value) (l : List ByteArray) (m : List (Int × ByteArray)) (W : World) : Prop :=
  Box2 w.heap.size vS vW W ∧ Box2 (w.heap.size + 1) (.slice none 0 0) (.slice none 0 0) W ∧ Box2 (w.heap.size + 1 + 1) u v W ∧ OwnS (w.heap.size + 3) u l W ∧ OwnW (w.heap.size + 3) v m W ∧ Below w.heap.size w W
def fewW (w : World) (vS vW : Value) : World := ((w.alloc (.cells #[vS, vW] 25)).alloc (.cells #[.slice none 0 0, .slice none 0 0] 25)).alloc (.cells #[.slice none 0 0, .slice none 0 0] 25)
theorem FewB.made (w : World) (vS vW : Value) : FewB w vS vW (.slice none 0 0) (.slice none 0 0) [] [] (fewW w vS vW) := by
  have b1 := Box2.made w vS vW 25
  have b2 := Box2.made (w.alloc (.cells #[vS, vW] 25)) (.slice none 0 0) (.slice none 0 0) 25
  have b3 := Box2.made ((w.alloc (.cells #[vS, vW] 25)).alloc (.cells #[.slice none 0 0, .slice none 0 0] 25)) (.slice none 0 0) (.slice none 0 0) 25
  simp only [World.size_alloc] at b2 b3
  exact ⟨(b1.below (al _ _)).below (al _ _), b2.below (al _ _), b3, World.ownsRow_nil _ _ _ _, World.ownsRow_nil _ _ _ _, below_trans (below_trans (al _ _) (al _ _)) (al _ _)⟩
theorem OwnW.below {B : Nat} {v : Value} {ls : List (Int × ByteArray)} {w w' : World} (h : OwnW B v ls w) (hb : Below w.heap.size w w') : OwnW B v ls w' := by
  obtain ⟨h0, h1 | ⟨g, cap, cur, hv, hg, hh, hrest⟩⟩ := h
  · exact ⟨h0, .inl h1⟩
  · exact ⟨h0, .inr ⟨g, cap, cur, hv, hg, (hb.block g (Array.getElem?_eq_some_iff.1 hh).1).trans hh, hrest⟩⟩
theorem OwnW.setBelow {w : World} {B b i : Nat} {v u : Value} {ls : List (Int × ByteArray)} (h : OwnW B v ls w) (hb : b < B) : OwnW B v ls (w.setCell ⟨b, i, none⟩ u) := by
  obtain ⟨h0, h1 | ⟨g, cap, cur, hv, hg, hh, hrest⟩⟩ := h
  · exact ⟨h0, .inl h1⟩
  · exact ⟨h0, .inr ⟨g, cap, cur, hv, hg, (Below.heap_setCell _ _ _ g (by simp; omega)).trans hh, hrest⟩⟩
theorem FewB.below {w W W' : World} {vS vW u v : Value} {l : List ByteArray} {m : List (Int × ByteArray)} (h : FewB w vS vW u v l m W) (hb : Below W.heap.size W W') : FewB w vS vW u v l m W' :=
  ⟨h.1.below hb, h.2.1.below hb, h.2.2.1.below hb, h.2.2.2.1.below hb, h.2.2.2.2.1.below hb, below_trans h.2.2.2.2.2 hb⟩
theorem Box2.grown {b : Nat} {c0 c1 : Value} {W W' : World} {row : Option Nat} (h : Box2 b c0 c1 W) (hg : W.grownBy W' row) (hne : some b ≠ row) : Box2 b c0 c1 W' := by
  have e := hg.block b h.1 hne
  obtain ⟨h0, h1, h2, h3, h4⟩ := h
  refine ⟨Nat.lt_of_lt_of_le h0 hg.size, ?_, ?_, ?_, ?_⟩
  · exact (World.cell?_of_block (a := ⟨b, 0, none⟩) e).trans h1
  · exact (World.cell?_of_block (a := ⟨b, 1, none⟩) e).trans h2
  · exact (World.frozen?_of_block (a := ⟨b, 0, none⟩) e).trans h3
  · exact (World.frozen?_of_block (a := ⟨b, 1, none⟩) e).trans h4
theorem Box2.set0 {b : Nat} {c0 c1 : Value} {w : World} (h : Box2 b c0 c1 w) (u : Value) : Box2 b u c1 (w.setCell ⟨b, 0, none⟩ u) := by
  obtain ⟨h0, h1, h2, h3, h4⟩ := h
  have n01 : (⟨b, 0, none⟩ : Addr) ≠ ⟨b, 1, none⟩ := by simp
  exact ⟨by simpa using h0, World.cell?_setCell_same _ _ _ h1, by rw [World.cell?_setCell_other _ _ _ _ n01]; exact h2, by rw [World.frozen?_setCell]; exact h3, by rw [World.frozen?_setCell]; exact h4⟩
theorem Box2.set1 {b : Nat} {c0 c1 : Value} {w : World} (h : Box2 b c0 c1 w) (u : Value) : Box2 b c0 u (w.setCell ⟨b, 1, none⟩ u) := by
  obtain ⟨h0, h1, h2, h3, h4⟩ := h
  have n01 : (⟨b, 1, none⟩ : Addr) ≠ ⟨b, 0, none⟩ := by simp
  exact ⟨by simpa using h0, by rw [World.cell?_setCell_other _ _ _ _ n01]; exact h1, World.cell?_setCell_same _ _ _ h2, by rw [World.frozen?_setCell]; exact h3, by rw [World.frozen?_setCell]; exact h4⟩
/-- The two rows lie in unlike blocks. -/
theorem own_apart {B : Nat} {u v : Value} {l : List ByteArray} {m : List (Int × ByteArray)} {W : World} (hu : OwnS B u l W) (hv : OwnW B v m W) : (u.ownBlock = none ∨ u.ownBlock ≠ v.ownBlock) ∧ (v.ownBlock = none ∨ v.ownBlock ≠ u.ownBlock) := by
  obtain ⟨_, ⟨rfl, _⟩ | ⟨g, cap, cur, rfl, _, hh, _⟩⟩ := hu
  · refine ⟨.inl rfl, ?_⟩
    cases h : v.ownBlock with
    | none => exact .inl rfl
    | some k => exact .inr (by simp [Value.ownBlock])
  · obtain ⟨_, ⟨rfl, _⟩ | ⟨g', cap', cur', rfl, _, hh', _⟩⟩ := hv
    · exact ⟨.inr (by simp [Value.ownBlock]), .inl rfl⟩
    · have hne : g ≠ g' := by
        rintro rfl
        rw [hh] at hh'
        simp at hh'
      exact ⟨.inr (by simpa [Value.ownBlock] using hne), .inr (by simpa [Value.ownBlock] using Ne.symm hne)⟩
/-- One text more. -/
theorem FewB.snocS {w W w1 : World} {vS vW u v : Value} {l : List ByteArray} {m : List (Int × ByteArray)} {t : ByteArray} {gg cap : Nat} (h : FewB w vS vW u v l m W) (hg : W.grownBy w1 u.ownBlock)
    (hown : w1.ownsRow (w.heap.size + 3) 9 1 (.slice (some ⟨gg, 0, none⟩) (l.length + 1) cap) (l.length + 1) (scells l ++ [.string t])) :
    Box2 (w.heap.size + 1 + 1) u v w1 ∧ FewB w vS vW (.slice (some ⟨gg, 0, none⟩) (l.length + 1) cap) v (l ++ [t]) m (w1.setCell ⟨w.heap.size + 1 + 1, 0, none⟩ (.slice (some ⟨gg, 0, none⟩) (l.length + 1) cap)) := by
  obtain ⟨h1, h2, h3, h4, h5, h6⟩ := h
  have hlt := fun k e => (World.ownsRow.lt h4 k e).1
  have ne : ∀ b, b < w.heap.size + 3 → some b ≠ u.ownBlock := fun b hb e => by have := hlt b e.symm; omega
  have k3 := h3.grown hg (ne _ (by omega))
  have kW : OwnW (w.heap.size + 3) v m w1 := World.ownsRow.kept h5 hg (own_apart h4 h5).2
  have kS : OwnS (w.heap.size + 3) (.slice (some ⟨gg, 0, none⟩) (l.length + 1) cap) (l ++ [t]) w1 := by
    unfold OwnS
    rw [scells_snoc, List.length_append]
    exact hown
  have kB : Below w.heap.size w w1 := h6.grown hg h6.size (fun k e => by have := hlt k e; omega)
  exact ⟨k3, (h1.grown hg (ne _ (by omega))).other (by omega) _, (h2.grown hg (ne _ (by omega))).other (by omega) _, k3.set0 _, kS.setBelow (by omega), kW.setBelow (by omega), kB.setCell (p := ⟨w.heap.size + 1 + 1, 0, none⟩) (by simp; omega) _⟩
/-- One write more. -/
theorem FewB.snocW {w W w1 : World} {vS vW u v : Value} {l : List ByteArray} {m : List (Int × ByteArray)} {i : Int} {t : ByteArray} {gg cap : Nat} (h : FewB w vS vW u v l m W) (hg : W.grownBy w1 v.ownBlock)
    (hown : w1.ownsRow (w.heap.size + 3) 43 2 (.slice (some ⟨gg, 0, none⟩) (m.length + 1) cap) (m.length + 1) (wcells m ++ [.int .i64 i, .string t])) :
    Box2 (w.heap.size + 1 + 1) u v w1 ∧ FewB w vS vW u (.slice (some ⟨gg, 0, none⟩) (m.length + 1) cap) l (m ++ [(i, t)]) (w1.setCell ⟨w.heap.size + 1 + 1, 1, none⟩ (.slice (some ⟨gg, 0, none⟩) (m.length + 1) cap)) := by
  obtain ⟨h1, h2, h3, h4, h5, h6⟩ := h
  have hlt := fun k e => (World.ownsRow.lt h5 k e).1
  have ne : ∀ b, b < w.heap.size + 3 → some b ≠ v.ownBlock := fun b hb e => by have := hlt b e.symm; omega
  have k3 := h3.grown hg (ne _ (by omega))
  have kS : OwnS (w.heap.size + 3) u l w1 := World.ownsRow.kept h4 hg (own_apart h4 h5).1
  have kW : OwnW (w.heap.size + 3) (.slice (some ⟨gg, 0, none⟩) (m.length + 1) cap) (m ++ [(i, t)]) w1 := by
    unfold OwnW
    rw [wcells_snoc, List.length_append]
    exact hown
  have kB : Below w.heap.size w w1 := h6.grown hg h6.size (fun k e => by have := hlt k e; omega)
  exact ⟨k3, (h1.grown hg (ne _ (by omega))).other (by omega) _, (h2.grown hg (ne _ (by omega))).other (by omega) _, k3.set1 _, kS.setBelow (by omega), kW.setBelow (by omega), kB.setCell (p := ⟨w.heap.size + 1 + 1, 1, none⟩) (by simp; omega) _⟩

/-- A disk of few sectors and writes, in new rows, is returned. -/
def FewE (w : World) (e : Ending) (w' : World) : Prop :=
  ∃ uS uW ls ws, e = .returned (.agg #[uS, uW]) ∧ ls.length ≤ 20 ∧ ws.length ≤ 66 ∧ (∀ t ∈ ls, t.size ≤ 66) ∧ (∀ y ∈ ws, y.2.size ≤ 66) ∧ (SRow w' uS ls ∧ From w.heap.size uS) ∧ (WRow w' uW ws ∧ From w.heap.size uW) ∧ Below w.heap.size w w'

theorem from_ownS {B : Nat} {u : Value} {l : List ByteArray} {W : World} (h : OwnS B u l W) : From B u := fun g o n cap e => by subst e; exact (World.ownsRow.lt h g rfl).1
theorem from_ownW {B : Nat} {u : Value} {l : List (Int × ByteArray)} {W : World} (h : OwnW B u l W) : From B u := fun g o n cap e => by subst e; exact (World.ownsRow.lt h g rfl).1
theorem few_end {w W : World} {vS vW u v : Value} {l : List ByteArray} {m : List (Int × ByteArray)} (h : FewB w vS vW u v l m W) :
    Box2 (w.heap.size + 1) u v ((W.setCell ⟨w.heap.size + 1, 0, none⟩ u).setCell ⟨w.heap.size + 1, 1, none⟩ v) ∧
    (SRow ((W.setCell ⟨w.heap.size + 1, 0, none⟩ u).setCell ⟨w.heap.size + 1, 1, none⟩ v) u l ∧ From w.heap.size u) ∧ (WRow ((W.setCell ⟨w.heap.size + 1, 0, none⟩ u).setCell ⟨w.heap.size + 1, 1, none⟩ v) v m ∧ From w.heap.size v) ∧
    Below w.heap.size w ((W.setCell ⟨w.heap.size + 1, 0, none⟩ u).setCell ⟨w.heap.size + 1, 1, none⟩ v) := by
  obtain ⟨h1, h2, h3, h4, h5, h6⟩ := h
  exact ⟨h2.set u v, ⟨((h4.setBelow (b := w.heap.size + 1) (by omega)).setBelow (b := w.heap.size + 1) (by omega)).row, (from_ownS h4).mono (by omega)⟩, ⟨((h5.setBelow (b := w.heap.size + 1) (by omega)).setBelow (b := w.heap.size + 1) (by omega)).row, (from_ownW h5).mono (by omega)⟩,
    (h6.setCell (p := ⟨w.heap.size + 1, 0, none⟩) (by simp) _).setCell (p := ⟨w.heap.size + 1, 1, none⟩) (by simp) _⟩

/-- What holds at the heads of few's two loops. -/
def Few1 (w : World) (vS vW : Value) (n : Nat) (i : Value) (wr : World) : Prop := ∃ u l, l.length ≤ n ∧ i = .int .i64 l.length ∧ (∀ t ∈ l, t.size ≤ 66) ∧ FewB w vS vW u (.slice none 0 0) l [] wr
def Few2 (w : World) (vS vW u : Value) (l : List ByteArray) (n : Nat) (i : Value) (wr : World) : Prop := ∃ v m, m.length ≤ n ∧ i = .int .i64 m.length ∧ (∀ y ∈ m, y.2.size ≤ 66) ∧ FewB w vS vW u v l m wr

set_option maxHeartbeats 2000000 in
set_option maxRecDepth 100000 in
theorem few_any {vS vW : Value} {w : World} (hS : ArgS w vS) (hW : ArgW w vW) : Calls Try.prog 6 #[.agg #[vS, vW]] w (FewE w) := by
  obtain ⟨i0, hi, hz0, hz1, hz2⟩ := info_parts Try.infoS
  obtain ⟨i1, hi1, hy0, hy1, hy2⟩ := info_parts Try.infoW
  obtain ⟨aS, len, cap, rfl, hl1, hl2, HS⟩ := hS
  obtain ⟨aW, lenW, capW, rfl, hw1, hw2, HW⟩ := hW
  replace HS := Lib.hid HS
  replace HW := Lib.hid HW
  have HF := Lib.hid (FewB.made w (.slice aS len cap) (.slice aW lenW capW))
  obtain ⟨n, hn, hnl, hn20⟩ : ∃ n : Nat, min (len : Int) 20 = n ∧ n ≤ len ∧ n ≤ 20 := ⟨min len 20, by omega, by omega, by omega⟩
  go_enter Try.func6, Try.ntmps6
  go_wp2
  go_loopw [16] (fun i wr => Few1 w (.slice aS len cap) (.slice aW lenW capW) n i wr) (fun i _ => n - (RowKit.intOf i).toNat)
  case atStart => exact ⟨_, [], Nat.zero_le _, rfl, by simp, HF.out⟩
  case round =>
    clear HF hn
    obtain ⟨u, l, hln, rfl, hall, hF⟩ := hrel
    have HF := Lib.hid hF
    have HAL := Lib.hid hall
    clear hall
    by_cases hlt : l.length < n
    · obtain ⟨b, off, rfl, hb, hcs⟩ := HS.out (by omega)
      obtain ⟨t, ht, hct⟩ := hcs l.length (by omega)
      have hce := (hF.2.2.2.2.2.cell (p := ⟨b, off + l.length, none⟩) hb).trans hct
      have hbw : b < wr.heap.size := Nat.lt_of_lt_of_le hb hF.2.2.2.2.2.size
      obtain ⟨q, hq, hqt, hq66⟩ : ∃ q : Nat, min (t.size : Int) 66 = q ∧ q ≤ t.size ∧ q ≤ 66 := ⟨min t.size 66, by omega, by omega, by omega⟩
      obtain ⟨h1, h2, ⟨o0, o1, o2, o3, o4⟩, h4, h5, h6⟩ := hF
      have HO := Lib.hid h4
      have hsz := h6.size
      have HM1 : Hid (l.length + 1 ≤ maxLen) := by unfold Hid maxLen; omega
      have HM2 : Hid ((l.length + 1) * 16 ≤ 140737488355328) := by unfold Hid; omega
      clear hcs hct h1 h2 h4 h5 h6
      go_upto_region 5 with (fail)
      have HFd := Lib.hid (HF.out.below (below_trans (al wr (.cells #[.string (t.extract 0 q)] 9)) ((Below.refl _ _).drew)))
      have HN : Hid (∀ j u, [Value.string (t.extract 0 q)][j]? = some u → (wr.alloc (.cells #[.string (t.extract 0 q)] 9)).drew.cell? ((⟨wr.heap.size, 0, none⟩ : Addr).add j) = some u) := World.news_of_block (cs := #[.string (t.extract 0 q)]) (t := 9) (fr := (0, 0)) (heap_alloc_new wr _)
      go_region_law ((refine step_append_lies _ (by rfl) _ _ _ (by rfl) (w.heap.size + 3) 9 i0 _ 1 16 Try.underlying22 hi hz0 hz1 hz2 rfl (by omega) u l.length (scells l) (by rfl) HFd.out.2.2.2.1 ⟨wr.heap.size, 0, none⟩ 1 1 [.string (t.extract 0 q)] (by rfl) (by rfl) HN.out (by simp [Value.oneCell']) (by omega) HM1.out HM2.out (by simp; omega) (wr.heap.size + 1) (by simp) ?_; intro gg capA w1 hown1 hgrow hat hltA; have HE := Lib.hid (HFd.out.snocS hgrow hown1); obtain ⟨q0, q1, q2, q3, q4⟩ := HE.out.1; clear hown1 hgrow hat))
      all_goals
        clear q0 q1 q2 q3 q4 hq
        go_wp2
        go_roundw
        case rel =>
          refine ⟨_, l ++ [t.extract 0 q], by simp; omega, by simp, ?_, HE.out.2⟩
          intro y hy
          rcases List.mem_append.1 hy with h | h
          · exact HAL.out y h
          · obtain rfl := List.mem_singleton.1 h
            rw [ByteArray.size_extract]; omega
        case measure => simp [RowKit.intOf]; omega
    · obtain ⟨⟨b0, b1, b2, b3, b4⟩, _, _, _, _, hbe⟩ := hF
      clear hbe
      obtain ⟨m0, hm, hml, hm66⟩ : ∃ n : Nat, min (lenW : Int) 66 = n ∧ n ≤ lenW ∧ n ≤ 66 := ⟨min lenW 66, by omega, by omega, by omega⟩
      go_wp2
      go_loopw [39] (fun i wr => Few2 w (.slice aS len cap) (.slice aW lenW capW) u l m0 i wr) (fun i _ => m0 - (RowKit.intOf i).toNat)
      case atStart => exact ⟨_, [], Nat.zero_le _, rfl, by simp, HF.out⟩
      case round =>
        clear HF hm b0 b1 b2 b3 b4
        obtain ⟨v, m, hmn, rfl, hallW, hF⟩ := hrel
        have HF := Lib.hid hF
        have HALW := Lib.hid hallW
        clear hallW
        by_cases hlt2 : m.length < m0
        · obtain ⟨b, off, rfl, hb, hcs⟩ := HW.out (by omega)
          obtain ⟨ya, t, ht, hct1, hct2⟩ := hcs m.length (by omega)
          have hce1 := (hF.2.2.2.2.2.cell (p := ⟨b, off + m.length * 2, none⟩) hb).trans hct1
          have hce2 := (hF.2.2.2.2.2.cell (p := ⟨b, off + m.length * 2 + 1, none⟩) hb).trans hct2
          have hbw : b < wr.heap.size := Nat.lt_of_lt_of_le hb hF.2.2.2.2.2.size
          obtain ⟨q, hq, hqt, hq66⟩ : ∃ q : Nat, min (t.size : Int) 66 = q ∧ q ≤ t.size ∧ q ≤ 66 := ⟨min t.size 66, by omega, by omega, by omega⟩
          obtain ⟨h1, h2, ⟨o0, o1, o2, o3, o4⟩, h4, h5, h6⟩ := hF
          have hsz := h6.size
          have HM1 : Hid (m.length + 1 ≤ maxLen) := by unfold Hid maxLen; omega
          have HM2 : Hid ((m.length + 1) * 24 ≤ 140737488355328) := by unfold Hid; omega
          clear hcs hct1 hct2 h1 h2 h4 h5 h6
          have HFc := Lib.hid (HF.out.below (below_trans (al wr (.cells #[.int .i64 ya, .string (t.extract 0 q)] 43)) (al _ (.cells #[.int .i64 ya, .string (t.extract 0 q)] 43))))
          have HN : Hid (Box2 (wr.heap.size + 1) (.int .i64 ya) (.string (t.extract 0 q)) ((wr.alloc (.cells #[.int .i64 ya, .string (t.extract 0 q)] 43)).alloc (.cells #[.int .i64 ya, .string (t.extract 0 q)] 43))) := by
            have := Box2.made (wr.alloc (.cells #[.int .i64 ya, .string (t.extract 0 q)] 43)) (.int .i64 ya) (.string (t.extract 0 q)) 43
            simp only [World.size_alloc] at this
            exact this
          go_wp2_with (at_builtin; refine wpList_append_lies _ rfl _ _ 23 rfl (w.heap.size + 3) 43 i1 (.agg #[.int .i64 0, .string ⟨#[]⟩]) 2 24 Try.underlying23 hi1 hy0 hy1 hy2 rfl (by omega) v m.length (wcells m) rfl HFc.out.2.2.2.2.1 ⟨wr.heap.size + 1, 0, none⟩ 1 1 [.int .i64 ya, .string (t.extract 0 q)] rfl rfl (news2 HN.out) (by simp [Value.oneCell']) (by omega) HM1.out HM2.out (by simp; omega) (wr.heap.size + 1 + 1) (by simp) ?_; intro gg capA w1 hown1 hgrow hat hltA; have HE := Lib.hid (HFc.out.snocW hgrow hown1); obtain ⟨q0, q1, q2, q3, q4⟩ := HE.out.1; clear hown1 hgrow hat)
          go_roundw
          case rel =>
            refine ⟨_, m ++ [(ya, t.extract 0 q)], by simp; omega, by simp, ?_, HE.out.2⟩
            intro y hy
            rcases List.mem_append.1 hy with h | h
            · exact HALW.out y h
            · obtain rfl := List.mem_singleton.1 h
              show (t.extract 0 q).size ≤ 66
              rw [ByteArray.size_extract]; omega
          case measure => simp [RowKit.intOf]; omega
        · obtain ⟨h1, ⟨o0, o1, o2, o3, o4⟩, ⟨b0, b1, b2, b3, b4⟩, h4, h5, h6⟩ := hF
          have HE := Lib.hid (few_end HF.out)
          obtain ⟨au, cu, eu⟩ := h4.row.slice
          obtain ⟨av, cv, ev⟩ := h5.row.slice
          subst eu ev
          clear h1 h4 h5 h6
          go_wp2
          obtain ⟨⟨z0, z1, z2, _⟩, z3, z4, z5⟩ := HE.out
          exact bodyPost_ret (v := .agg #[.slice au l.length cu, .slice av m.length cv]) (by simp [results, Try.results6, go_sem, z1, z2]) rfl ⟨_, _, l, m, rfl, by omega, by omega, HAL.out, HALW.out, z3, z4, z5⟩
end Go.Proofs.Ythoeidgekogfiaa.Disk
