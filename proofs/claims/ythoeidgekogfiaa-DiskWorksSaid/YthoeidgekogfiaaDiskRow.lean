/-
  Rows of texts and of writes in blocks of their own; contracts of slices.Clone at both.
-/
import Derived.Test.YthoeidgekogfiaaDisk
import Derived.Lib.LazyBuf
import Derived.Lib.SlBuf
namespace Go.Proofs.Ythoeidgekogfiaa.Disk
open Go.ChangeShapes Go.WideShapes Go.ChangeAt Go.RowKit Go.Lib

theorem Try.infoS : (Try.prog.info? 9).map (fun i => (i.zero, i.size, i.bytes)) = some (some (.string ⟨#[]⟩), 1, 16) := by kernel_rfl
theorem Try.infoW : (Try.prog.info? 43).map (fun i => (i.zero, i.size, i.bytes)) = some (some (.agg #[.int .i64 0, .string ⟨#[]⟩]), 2, 24) := by kernel_rfl

def scells (l : List ByteArray) : List Value := l.map Value.string
theorem scells_len (l : List ByteArray) : (scells l).length = l.length := by simp [scells]
theorem scells_snoc (l : List ByteArray) (t : ByteArray) : scells (l ++ [t]) = scells l ++ [Value.string t] := by simp [scells]
theorem scells_at {l : List ByteArray} {j : Nat} (h : j < l.length) : (scells l)[j]? = some (.string l[j]) := by simp [scells, List.getElem?_eq_getElem h]
def wcells : List (Int × ByteArray) → List Value
  | [] => []
  | y :: r => .int .i64 y.1 :: .string y.2 :: wcells r
theorem wcells_len : ∀ l : List (Int × ByteArray), (wcells l).length = l.length * 2
  | [] => rfl
  | y :: r => by simp [wcells, wcells_len r]; omega
theorem wcells_append : ∀ (l m : List (Int × ByteArray)), wcells (l ++ m) = wcells l ++ wcells m
  | [], m => rfl
  | y :: r, m => by simp [wcells, wcells_append r m]
theorem wcells_snoc (l : List (Int × ByteArray)) (y : Int × ByteArray) : wcells (l ++ [y]) = wcells l ++ [.int .i64 y.1, .string y.2] := by rw [wcells_append]; rfl
theorem wcells_at : ∀ (l : List (Int × ByteArray)) (j : Nat) (h : j < l.length), (wcells l)[j * 2]? = some (.int .i64 l[j].1) ∧ (wcells l)[j * 2 + 1]? = some (.string l[j].2)
  | y :: r, 0, _ => ⟨rfl, rfl⟩
  | y :: r, j + 1, h => by
    have := wcells_at r j (by simpa using h)
    rw [show (j + 1) * 2 = j * 2 + 1 + 1 by omega]
    simpa [wcells] using this
theorem wcells_one : ∀ (l : List (Int × ByteArray)) u, u ∈ wcells l → u.oneCell' = true
  | y :: r, u, h => by
    simp only [wcells, List.mem_cons] at h
    rcases h with rfl | rfl | h
    · rfl
    · rfl
    · exact wcells_one r u h
theorem scells_one (l : List ByteArray) (u : Value) (h : u ∈ scells l) : u.oneCell' = true := by
  simp only [scells, List.mem_map] at h
  obtain ⟨b, _, rfl⟩ := h
  rfl

/-- A row of texts, a row of writes, in a block of its own from B on. -/
def OwnS (B : Nat) (v : Value) (ls : List ByteArray) (w : World) : Prop := w.ownsRow B 9 1 v ls.length (scells ls)
def OwnW (B : Nat) (v : Value) (ws : List (Int × ByteArray)) (w : World) : Prop := w.ownsRow B 43 2 v ws.length (wcells ws)
theorem OwnS.row {w : World} {B : Nat} {v : Value} {ls : List ByteArray} (h : OwnS B v ls w) : SRow w v ls := by
  have hw := h
  obtain ⟨_, ⟨rfl, h2⟩ | ⟨g, cap, cur, rfl, hg, hh, hn, _⟩⟩ := h
  · exact .inl ⟨rfl, List.length_eq_zero_iff.1 h2⟩
  · refine .inr ⟨g, cap, rfl, hn, ?_, ?_⟩
    · apply Classical.byContradiction
      intro hc
      rw [Array.getElem?_eq_none (by omega)] at hh
      cases hh
    · intro j hj
      have := World.ownsRow.cells hw (g := g) rfl j (.string ls[j]) (scells_at hj)
      rwa [addr_at] at this
theorem OwnW.row {w : World} {B : Nat} {v : Value} {ws : List (Int × ByteArray)} (h : OwnW B v ws w) : WRow w v ws := by
  have hw := h
  obtain ⟨_, ⟨rfl, h2⟩ | ⟨g, cap, cur, rfl, hg, hh, hn, _⟩⟩ := h
  · exact .inl ⟨rfl, List.length_eq_zero_iff.1 h2⟩
  · refine .inr ⟨g, cap, rfl, hn, ?_, ?_⟩
    · apply Classical.byContradiction
      intro hc
      rw [Array.getElem?_eq_none (by omega)] at hh
      cases hh
    · intro j hj
      have h1 := World.ownsRow.cells hw (g := g) rfl (j * 2) _ (wcells_at ws j hj).1
      have h2 := World.ownsRow.cells hw (g := g) rfl (j * 2 + 1) _ (wcells_at ws j hj).2
      rw [addr_at] at h1 h2
      exact ⟨h1, h2⟩
theorem SRow.news {w : World} {g cap : Nat} {ls : List ByteArray} (h : SRow w (.slice (some ⟨g, 0, none⟩) ls.length cap) ls) : ∀ j u, (scells ls)[j]? = some u → w.cell? ((⟨g, 0, none⟩ : Addr).add j) = some u := by
  intro j u hu
  have hj : j < ls.length := by
    have := (List.getElem?_eq_some_iff.1 hu).1
    rwa [scells_len] at this
  obtain ⟨g', e, _, _, hc⟩ := h.at hj
  cases e
  rw [scells_at hj] at hu
  cases hu
  rw [addr_at]; exact hc
theorem WRow.news {w : World} {g cap : Nat} {ws : List (Int × ByteArray)} (h : WRow w (.slice (some ⟨g, 0, none⟩) ws.length cap) ws) : ∀ j u, (wcells ws)[j]? = some u → w.cell? ((⟨g, 0, none⟩ : Addr).add j) = some u := by
  intro j u hu
  have hj : j < ws.length * 2 := by
    have := (List.getElem?_eq_some_iff.1 hu).1
    rwa [wcells_len] at this
  have hq : j / 2 < ws.length := by omega
  obtain ⟨g', e, _, _, c1, c2⟩ := h.at hq
  cases e
  have hA := wcells_at ws (j / 2) hq
  rw [addr_at]
  rcases Nat.mod_two_eq_zero_or_one j with hm | hm
  · obtain ⟨q, rfl⟩ : ∃ q, j = q * 2 := ⟨j / 2, by omega⟩
    have eq : q * 2 / 2 = q := by omega
    simp only [eq] at c1 hA
    rw [hA.1] at hu
    cases hu
    exact c1
  · obtain ⟨q, rfl⟩ : ∃ q, j = q * 2 + 1 := ⟨j / 2, by omega⟩
    have eq : (q * 2 + 1) / 2 = q := by omega
    simp only [eq] at c2 hA
    rw [hA.2] at hu
    cases hu
    exact c2

/-- A new row is returned. -/
def NewS (ls : List ByteArray) (w : World) (e : Ending) (w' : World) : Prop := ∃ v, e = .returned v ∧ OwnS w.heap.size v ls w' ∧ Below w.heap.size w w'
def NewW (ws : List (Int × ByteArray)) (w : World) (e : Ending) (w' : World) : Prop := ∃ v, e = .returned v ∧ OwnW w.heap.size v ws w' ∧ Below w.heap.size w w'

set_option maxHeartbeats 1000000 in
set_option maxRecDepth 100000 in
theorem CloneS_any {v : Value} {ls : List ByteArray} {w : World} (h : SRow w v ls) (hl : ls.length ≤ 1000) : Calls Try.prog 22 #[v] w (NewS ls w) := by
  obtain ⟨i0, hi, hz0, hz1, hz2⟩ := info_parts Try.infoS
  have H := Lib.hid h
  rcases h with ⟨rfl, rfl⟩ | ⟨g, cap, rfl, hc, hg, hcell⟩
  · have hnil : (binOp .eql 22 (.slice none 0 0) (.slice none 0 0)).run Try.prog w = .ok (.bool true) w := run_eql_slice_nil w 22 9 _ _ _ Try.underlying22
    go_enter Try.func22, Try.ntmps22
    go_wp2
    go_ret
    exact ⟨_, rfl, World.ownsRow_nil _ _ _ _, Below.refl _ _⟩
  · have hb : Below w.heap.size w (w.alloc (.cells #[] 9)) := (Below.refl _ _).alloc (Nat.le_refl _) _
    have HB := Lib.hid hb
    have HN := Lib.hid (H.out.below hb).news
    have hnil : (binOp .eql 22 (.slice (some ⟨g, 0, none⟩) ls.length cap) (.slice none 0 0)).run Try.prog w = .ok (.bool false) w := run_eql_slice_nil w 22 9 _ _ _ Try.underlying22
    clear hcell hb
    go_enter Try.func22, Try.ntmps22
    go_wp2_with (at_builtin; refine wpList_append_own _ rfl _ _ 22 rfl w.heap.size 9 i0 (.string ⟨#[]⟩) 1 16 Try.underlying22 hi hz0 hz1 hz2 rfl (by decide) _ 0 [] rfl (World.ownsRow_made w #[] 0 (Nat.le_refl _) (Nat.zero_le _) rfl) ⟨g, 0, none⟩ ls.length cap (scells ls) rfl ?c0 HN.out (scells_one ls) ?c3 ?c4 ?c5 ?_)
    case c0 => rw [scells_len]; omega
    case c3 => unfold maxLen; omega
    case c4 => omega
    case c5 => simp
    intro v' w1 hown' hgrow _
    have R : OwnS w.heap.size v' ls w1 := hown'
    have B : Below w.heap.size w w1 := HB.out.grown hgrow (by simp) (fun j hj => by cases hj; exact Nat.le_refl _)
    have HR := Lib.hid (And.intro R B)
    clear R B hown' hgrow
    go_wp2
    go_ret
    exact ⟨_, rfl, HR.out.1, HR.out.2⟩

set_option maxHeartbeats 1000000 in
set_option maxRecDepth 100000 in
theorem CloneW_any {v : Value} {ls : List (Int × ByteArray)} {w : World} (h : WRow w v ls) (hl : ls.length ≤ 1000) : Calls Try.prog 23 #[v] w (NewW ls w) := by
  obtain ⟨i0, hi, hz0, hz1, hz2⟩ := info_parts Try.infoW
  have H := Lib.hid h
  rcases h with ⟨rfl, rfl⟩ | ⟨g, cap, rfl, hc, hg, hcell⟩
  · have hnil : (binOp .eql 23 (.slice none 0 0) (.slice none 0 0)).run Try.prog w = .ok (.bool true) w := run_eql_slice_nil w 23 43 _ _ _ Try.underlying23
    go_enter Try.func23, Try.ntmps23
    go_wp2
    go_ret
    exact ⟨_, rfl, World.ownsRow_nil _ _ _ _, Below.refl _ _⟩
  · have hb : Below w.heap.size w (w.alloc (.cells #[] 43)) := (Below.refl _ _).alloc (Nat.le_refl _) _
    have HB := Lib.hid hb
    have HN := Lib.hid (H.out.below hb).news
    have hnil : (binOp .eql 23 (.slice (some ⟨g, 0, none⟩) ls.length cap) (.slice none 0 0)).run Try.prog w = .ok (.bool false) w := run_eql_slice_nil w 23 43 _ _ _ Try.underlying23
    clear hcell hb
    go_enter Try.func23, Try.ntmps23
    go_wp2_with (at_builtin; refine wpList_append_own _ rfl _ _ 23 rfl w.heap.size 43 i0 (.agg #[.int .i64 0, .string ⟨#[]⟩]) 2 24 Try.underlying23 hi hz0 hz1 hz2 rfl (by decide) _ 0 [] rfl (World.ownsRow_made w #[] 0 (Nat.le_refl _) (Nat.zero_le _) rfl) ⟨g, 0, none⟩ ls.length cap (wcells ls) rfl ?c0 HN.out (wcells_one ls) ?c3 ?c4 ?c5 ?_)
    case c0 => rw [wcells_len]
    case c3 => unfold maxLen; omega
    case c4 => omega
    case c5 => simp
    intro v' w1 hown' hgrow _
    have R : OwnW w.heap.size v' ls w1 := hown'
    have B : Below w.heap.size w w1 := HB.out.grown hgrow (by simp) (fun j hj => by cases hj; exact Nat.le_refl _)
    have HR := Lib.hid (And.intro R B)
    clear R B hown' hgrow
    go_wp2
    go_ret
    exact ⟨_, rfl, HR.out.1, HR.out.2⟩

end Go.Proofs.Ythoeidgekogfiaa.Disk
