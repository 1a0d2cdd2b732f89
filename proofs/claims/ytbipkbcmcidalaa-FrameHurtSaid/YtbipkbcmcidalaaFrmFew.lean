/-
  Contract of the own few of the laws of frame: of a row of texts that came in some few texts, each cut, in a new row.
-/
import Derived.Test.YtbipkbcmcidalaaKeep
namespace Go.Proofs.Ytbipkbcmcidalaa.Frame
open Go.ChangeShapes Go.WideShapes Go.ChangeAt Go.RowKit Go.Lib Go.Conc

/-- A row of at most 8 texts of at most 100 bytes is returned, in new blocks. -/
def Few (w : World) (e : Ending) (w' : World) : Prop :=
  ∃ (v : Value) (ls : List ByteArray), e = .returned v ∧ ls.length ≤ 8 ∧ (∀ t ∈ ls, t.size ≤ 100) ∧ w'.ownsRow w.heap.size 9 1 v ls.length (scells ls) ∧ Below w.heap.size w w'

/-- What holds at the head of few's loop. -/
def Cutting (m : Nat) (w : World) (v i : Value) (wr : World) : Prop :=
  ∃ (l : List ByteArray), l.length ≤ m ∧ i = .int .i64 l.length ∧ (∀ t ∈ l, t.size ≤ 100) ∧ wr.ownsRow w.heap.size 9 1 v l.length (scells l) ∧ Below w.heap.size w wr

theorem few_snoc {w wr w1 : World} {v v' : Value} {l : List ByteArray} {t : ByteArray} {o : Obj} (hown : wr.ownsRow w.heap.size 9 1 v l.length (scells l)) (hnx : Below w.heap.size w wr)
    (hown' : w1.ownsRow w.heap.size 9 1 v' (l.length + 1) (scells l ++ [.string t])) (hgrow : (wr.alloc o).grownBy w1 v.ownBlock) :
    w1.ownsRow w.heap.size 9 1 v' (l ++ [t]).length (scells (l ++ [t])) ∧ Below w.heap.size w w1 := by
  have hs := hnx.size
  exact ⟨by rw [scells_snoc]; simpa using hown', (hnx.alloc hs o).grown hgrow (by simp; omega) (fun j hj => (hown.lt j hj).1)⟩

set_option maxHeartbeats 1000000 in
set_option maxRecDepth 100000 in
theorem few_nil (a : Option Addr) (cap : Nat) (w : World) : Calls Try.prog 15 #[.slice a 0 cap] w (Few w) := by
  go_enter Try.func15, Try.ntmps15
  go_wp2
  refine wp_loop_rounds 1 ?_
  rw [rounds_succ]
  go_wp2
  go_ret
  exact ⟨_, [], rfl, by simp, by simp, World.ownsRow_nil _ _ _ _, Below.refl _ _⟩

set_option maxHeartbeats 2000000 in
set_option maxRecDepth 100000 in
theorem few_some (b off len cap : Nat) (ss : List ByteArray) (w : World) (h0 : 0 < len) (hl : len ≤ cap) (hm : cap ≤ maxLen) (hz : len ≤ ss.length) (hb : b < w.heap.size)
    (hcell : ∀ j, j < ss.length → w.cell? ⟨b, off + j, none⟩ = some (.string (ss.getD j ByteArray.empty))) (hws : ∀ s ∈ ss, s.size ≤ maxLen) : Calls Try.prog 15 #[.slice (some ⟨b, off, none⟩) len cap] w (Few w) := by
  obtain ⟨i0, hi, hz0, hz1, hz2⟩ := info_parts Try.info9
  unfold maxLen at hm
  have HCE := Lib.hid hcell
  have HWS := Lib.hid hws
  clear hcell hws
  by_cases hmin : len ≤ 8
  · go_enter Try.func15, Try.ntmps15
    go_wp2
    go_loopw [3, 12] (fun v i wr => Cutting len w v i wr) (fun _ i _ => len - (intOf i).toNat)
    case atStart => exact ⟨[], by simp, rfl, by simp, World.ownsRow_nil _ _ _ _, Below.refl _ _⟩
    case round =>
      obtain ⟨l, hlm, rfl, hall, hown, hnx⟩ := hrel
      have hns := hnx.size
      have HAL := Lib.hid hall
      have HO := Lib.hid hown
      by_cases hlt : l.length < len
      · have hce := (hnx.cell (p := ⟨b, off + l.length, none⟩) hb).trans (HCE.out l.length (by omega))
        have HN := Lib.hid hnx
        have hxs : (ss.getD l.length ByteArray.empty).size ≤ 9223372036854775807 := by
          have h1 : l.length < ss.length := by omega
          have := HWS.out (ss.getD l.length ByteArray.empty) (by simp [List.getD, List.getElem?_eq_getElem h1])
          unfold maxLen at this; omega
        clear hall hown hnx
        generalize ss.getD l.length ByteArray.empty = x at hce hxs
        by_cases hxm : x.size ≤ 100
        · go_wp2_with (at_builtin; refine wpList_append_own _ rfl _ _ 25 rfl w.heap.size 9 i0 (.string ⟨#[]⟩) 1 16 Try.underlying25 hi hz0 hz1 hz2 rfl (by decide) _ _ _ rfl (HO.out.alloc _) ⟨wr.heap.size, 0, none⟩ 1 1 [.string x] rfl rfl ?c1 ?c2 ?c3 ?c4 ?c5 ?_)
          case c1 =>
            intro j y hj
            match j, hj with
            | 0, hj => simp at hj; subst hj; simp [Addr.add]
          case c2 => intro y hy; simp at hy; subst hy; rfl
          case c3 => unfold maxLen; omega
          case c4 => omega
          case c5 => simp; omega
          intro v' w1 hown' hgrow _
          have R := few_snoc HO.out HN.out hown' hgrow
          have HR := Lib.hid R
          clear R hown' hgrow hce
          go_wp2
          go_roundw
          case rel =>
            refine ⟨l ++ [x], by simp; omega, v_int (by simp), ?_, HR.out.1, HR.out.2⟩
            intro t ht
            rcases List.mem_append.1 ht with h | h
            · exact HAL.out t h
            · obtain rfl := List.mem_singleton.1 h
              omega
          case measure => simp [intOf]; omega
        · go_wp2_with (at_builtin; refine wpList_append_own _ rfl _ _ 25 rfl w.heap.size 9 i0 (.string ⟨#[]⟩) 1 16 Try.underlying25 hi hz0 hz1 hz2 rfl (by decide) _ _ _ rfl (HO.out.alloc _) ⟨wr.heap.size, 0, none⟩ 1 1 [.string (x.extract 0 100)] rfl rfl ?d1 ?d2 ?d3 ?d4 ?d5 ?_)
          case d1 =>
            intro j y hj
            match j, hj with
            | 0, hj => simp at hj; subst hj; simp [Addr.add]
          case d2 => intro y hy; simp at hy; subst hy; rfl
          case d3 => unfold maxLen; omega
          case d4 => omega
          case d5 => simp; omega
          intro v' w1 hown' hgrow _
          have R := few_snoc HO.out HN.out hown' hgrow
          have HR := Lib.hid R
          clear R hown' hgrow hce
          go_wp2
          go_roundw
          case rel =>
            refine ⟨l ++ [x.extract 0 100], by simp; omega, v_int (by simp), ?_, HR.out.1, HR.out.2⟩
            intro t ht
            rcases List.mem_append.1 ht with h | h
            · exact HAL.out t h
            · obtain rfl := List.mem_singleton.1 h
              rw [ByteArray.size_extract]; omega
          case measure => simp [intOf]; omega
      · have HN := Lib.hid hnx
        clear hall hown hnx
        go_wp2
        go_ret
        exact ⟨_, l, rfl, by omega, HAL.out, HO.out, HN.out⟩
  · go_enter Try.func15, Try.ntmps15
    go_wp2
    go_loopw [3, 12] (fun v i wr => Cutting 8 w v i wr) (fun _ i _ => 8 - (intOf i).toNat)
    case atStart => exact ⟨[], by simp, rfl, by simp, World.ownsRow_nil _ _ _ _, Below.refl _ _⟩
    case round =>
      obtain ⟨l, hlm, rfl, hall, hown, hnx⟩ := hrel
      have hns := hnx.size
      have HAL := Lib.hid hall
      have HO := Lib.hid hown
      by_cases hlt : l.length < 8
      · have hce := (hnx.cell (p := ⟨b, off + l.length, none⟩) hb).trans (HCE.out l.length (by omega))
        have HN := Lib.hid hnx
        have hxs : (ss.getD l.length ByteArray.empty).size ≤ 9223372036854775807 := by
          have h1 : l.length < ss.length := by omega
          have := HWS.out (ss.getD l.length ByteArray.empty) (by simp [List.getD, List.getElem?_eq_getElem h1])
          unfold maxLen at this; omega
        clear hall hown hnx
        generalize ss.getD l.length ByteArray.empty = x at hce hxs
        by_cases hxm : x.size ≤ 100
        · go_wp2_with (at_builtin; refine wpList_append_own _ rfl _ _ 25 rfl w.heap.size 9 i0 (.string ⟨#[]⟩) 1 16 Try.underlying25 hi hz0 hz1 hz2 rfl (by decide) _ _ _ rfl (HO.out.alloc _) ⟨wr.heap.size, 0, none⟩ 1 1 [.string x] rfl rfl ?c1 ?c2 ?c3 ?c4 ?c5 ?_)
          case c1 =>
            intro j y hj
            match j, hj with
            | 0, hj => simp at hj; subst hj; simp [Addr.add]
          case c2 => intro y hy; simp at hy; subst hy; rfl
          case c3 => unfold maxLen; omega
          case c4 => omega
          case c5 => simp; omega
          intro v' w1 hown' hgrow _
          have R := few_snoc HO.out HN.out hown' hgrow
          have HR := Lib.hid R
          clear R hown' hgrow hce
          go_wp2
          go_roundw
          case rel =>
            refine ⟨l ++ [x], by simp; omega, v_int (by simp), ?_, HR.out.1, HR.out.2⟩
            intro t ht
            rcases List.mem_append.1 ht with h | h
            · exact HAL.out t h
            · obtain rfl := List.mem_singleton.1 h
              omega
          case measure => simp [intOf]; omega
        · go_wp2_with (at_builtin; refine wpList_append_own _ rfl _ _ 25 rfl w.heap.size 9 i0 (.string ⟨#[]⟩) 1 16 Try.underlying25 hi hz0 hz1 hz2 rfl (by decide) _ _ _ rfl (HO.out.alloc _) ⟨wr.heap.size, 0, none⟩ 1 1 [.string (x.extract 0 100)] rfl rfl ?d1 ?d2 ?d3 ?d4 ?d5 ?_)
          case d1 =>
            intro j y hj
            match j, hj with
            | 0, hj => simp at hj; subst hj; simp [Addr.add]
          case d2 => intro y hy; simp at hy; subst hy; rfl
          case d3 => unfold maxLen; omega
          case d4 => omega
          case d5 => simp; omega
          intro v' w1 hown' hgrow _
          have R := few_snoc HO.out HN.out hown' hgrow
          have HR := Lib.hid R
          clear R hown' hgrow hce
          go_wp2
          go_roundw
          case rel =>
            refine ⟨l ++ [x.extract 0 100], by simp; omega, v_int (by simp), ?_, HR.out.1, HR.out.2⟩
            intro t ht
            rcases List.mem_append.1 ht with h | h
            · exact HAL.out t h
            · obtain rfl := List.mem_singleton.1 h
              rw [ByteArray.size_extract]; omega
          case measure => simp [intOf]; omega
      · have HN := Lib.hid hnx
        clear hall hown hnx
        go_wp2
        go_ret
        exact ⟨_, l, rfl, by omega, HAL.out, HO.out, HN.out⟩

/-- few may be called with the slice v, wherever nothing that was there has changed. -/
def MayFew (w : World) (v : Value) : Prop := ∀ W, Below w.heap.size w W → Calls Try.prog 15 #[v] W (Few W)

theorem mayFew_of {a : Addr} {len cap : Nat} {ss : List ByteArray} {w : World} (hl : len ≤ cap) (hm : cap ≤ maxLen) (hz : len ≤ ss.length)
    (hcell : ∀ i, i < ss.length → w.cell? (a.add i) = some (.string (ss.getD i ByteArray.empty))) (hws : ∀ s ∈ ss, s.size ≤ maxLen) : MayFew w (.slice (some a) len cap) := by
  intro W hb
  by_cases h0 : len = 0
  · subst h0; exact few_nil _ _ _
  · obtain ⟨b, off, spot⟩ := a
    have hc := hcell 0 (by omega)
    have hspot : spot = none := by simpa [Addr.add] using World.cell?_spot hc
    subst hspot
    have hbl : b < w.heap.size := by simpa [Addr.add] using block_lt_of_cell hc
    have hbs := hb.size
    refine few_some b off len cap ss W (by omega) hl hm hz (by omega) (fun j hj => ?_) hws
    rw [hb.cell (p := ⟨b, off + j, none⟩) hbl, ← hcell j hj]
    by_cases hj0 : j = 0
    · subst hj0; simp [Addr.add]
    · simp [Addr.add, hj0]
end Go.Proofs.Ytbipkbcmcidalaa.Frame
