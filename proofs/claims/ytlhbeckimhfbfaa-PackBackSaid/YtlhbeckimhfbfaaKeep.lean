/-
  Contracts of keep and all of package pack: a channel of the call's own, kept to its room, and emptied.
-/
import Derived.Test.YtlhbeckimhfbfaaComm
import Derived.Test.YtlhbeckimhfbfaaNum
import Derived.Deep.Cut
import Derived.Conc.SmallLaws
import Derived.Conc.EventLaws
namespace Go.Proofs.Ytlhbeckimhfbfaa
open Go.ChangeShapes Go.WideShapes Go.ChangeAt Go.RowKit Go.Lib Go.Conc

theorem keep_long (c : Nat) (t : ByteArray) (w : World) (h : 4096 < t.size) (hs : t.size ≤ maxLen) :
    Calls Try.prog 31 #[.chan (some c), .string t] w fun e w' => e = .returned (.int .i64 3) ∧ w = w' := by
  unfold maxLen at hs
  go_enter Try.func31, Try.ntmps31
  go_wp2
  go_ret
  exact ⟨rfl, rfl⟩

set_option maxHeartbeats 400000 in
theorem keep_room (c s r cap : Nat) (buf : Array Value) (tm : Bool) (t : ByteArray) (w : World) (h : t.size ≤ 4096) (hc : w.heap[c]? = some (.chan cap buf false s r tm)) (hroom : buf.size < cap) :
    Calls Try.prog 31 #[.chan (some c), .string t] w fun e w' => e = .returned (.int .i64 0) ∧ w.setChan c cap (buf.push (.string t)) false (s + 1) r tm = w' := by
  have HC := Lib.hid hc
  clear hc
  go_enter Try.func31, Try.ntmps31
  go_upto_region 5 with (fail)
  refine wp_send_room rfl (c := c) (v := .string t) (z := .string ⟨#[]⟩) ?_ HC.out hroom ?_
  · simp [go_sem, execOp, scase, Act.eval]
  · go_wp2
    go_ret
    exact ⟨rfl, rfl⟩
set_option maxHeartbeats 400000 in
theorem keep_full (c s r cap : Nat) (buf : Array Value) (tm : Bool) (t : ByteArray) (w : World) (h : t.size ≤ 4096) (hc : w.heap[c]? = some (.chan cap buf false s r tm)) (hfull : cap ≤ buf.size) :
    Calls Try.prog 31 #[.chan (some c), .string t] w fun e w' => e = .returned (.int .i64 3) ∧ w = w' := by
  have HC := Lib.hid hc
  clear hc
  go_enter Try.func31, Try.ntmps31
  go_upto_region 5 with (fail)
  refine wp_send_full rfl (c := c) (v := .string t) (z := .string ⟨#[]⟩) ?_ HC.out hfull ?_
  · simp [go_sem, execOp, scase, Act.eval]
  · go_wp2
    go_ret
    exact ⟨rfl, rfl⟩

theorem Try.info9 : (Try.prog.info? 9).map (fun i => (i.zero, i.size, i.bytes)) = some (some (.string ⟨#[]⟩), 1, 16) := by kernel_rfl

def scells (l : List ByteArray) : List Value := l.map Value.string
theorem scells_len (l : List ByteArray) : (scells l).length = l.length := by simp [scells]
def chanLen (c : Nat) (w : World) : Nat := match w.heap[c]? with
  | some (.chan _ buf _ _ _ _) => buf.size
  | _ => 0

/-- The row of texts ts is returned, in blocks from B on; below c all is as it was. -/
def Texts (B c : Nat) (ts : List ByteArray) (w : World) (e : Ending) (w' : World) : Prop :=
  ∃ v, e = .returned v ∧ w'.ownsRow B 9 1 v ts.length (scells ts) ∧ Below c w w'

theorem scells_tail (t : ByteArray) (m : List ByteArray) : (scells (t :: m)).toArray.extract 1 (scells (t :: m)).toArray.size = (scells m).toArray := by
  simp [scells]
  exact List.take_of_length_le (by simp)
theorem scells_snoc (l : List ByteArray) (t : ByteArray) : scells (l ++ [t]) = scells l ++ [Value.string t] := by simp [scells]

theorem str_snoc {B c : Nat} {e : TypeId} {v v' : Value} {l : List ByteArray} (t : ByteArray) {w wr w1 : World} {o oc : Obj} (hcB : c < B) (hB : B ≤ wr.heap.size)
    (hown : wr.ownsRow B e 1 v l.length (scells l)) (hc : wr.heap[c]? = some oc) (hnx : Below c w wr)
    (hown' : w1.ownsRow B e 1 v' (l.length + 1) (scells l ++ [.string t])) (hgrow : (wr.alloc o).grownBy w1 v.ownBlock) :
    w1.ownsRow B e 1 v' (l ++ [t]).length (scells (l ++ [t])) ∧ w1.heap[c]? = some oc ∧ Below c w w1 ∧ B ≤ w1.heap.size := by
  have hs := hgrow.size
  have hs' : (wr.alloc o).heap.size = wr.heap.size + 1 := by simp
  refine ⟨by rw [scells_snoc]; simpa using hown', ?_, (hnx.alloc (by omega) o).grown hgrow (by omega) (fun j hj => by have := (hown.lt j hj).1; omega), by omega⟩
  rw [hgrow.block c (by omega) (fun h => by have := (hown.lt c h.symm).1; omega), Below.heap_alloc _ _ _ (by omega)]
  exact hc

/-- A store into the channel's block leaves the row alone. -/
theorem own_setChan {B c : Nat} {e : TypeId} {v : Value} {n : Nat} {xs : List Value} {w : World} (hcB : c < B) (h : w.ownsRow B e 1 v n xs) (cap : Nat) (buf : Array Value) (cl : Bool) (s r : Nat) (tm : Bool) :
    (w.setChan c cap buf cl s r tm).ownsRow B e 1 v n xs := by
  obtain ⟨h1, h2 | ⟨g, cp, cur, hv, hg, hb, h3⟩⟩ := h
  · exact ⟨h1, .inl h2⟩
  · refine ⟨h1, .inr ⟨g, cp, cur, hv, hg, ?_, h3⟩⟩
    simp only [World.setChan]
    rw [Array.getElem?_setIfInBounds_ne (by omega)]
    exact hb

/-- What holds at the head of a loop that empties a closed channel into a row of texts. -/
def Draining (B c cap s : Nat) (tm : Bool) (ts : List ByteArray) (w : World) (v : Value) (wr : World) : Prop :=
  ∃ (l m : List ByteArray) (r : Nat), l ++ m = ts ∧ wr.heap[c]? = some (.chan cap (scells m).toArray true s r tm) ∧ wr.ownsRow B 9 1 v l.length (scells l) ∧ Below c w wr ∧ B ≤ wr.heap.size

theorem chanLen_of {c cap s r : Nat} {buf : Array Value} {cl tm : Bool} {w : World} (h : w.heap[c]? = some (.chan cap buf cl s r tm)) : chanLen c w = buf.size := by unfold chanLen; rw [h]

set_option maxHeartbeats 1600000 in
set_option maxRecDepth 1000000 in
theorem all_any (c s r cap : Nat) (ts : List ByteArray) (tm : Bool) (w : World) (hc : w.heap[c]? = some (.chan cap (scells ts).toArray false s r tm)) (hl : ts.length ≤ 100000) :
    Calls Try.prog 34 #[.chan (some c)] w (Texts w.heap.size c ts w) := by
  obtain ⟨i0, hi, hz0, hz1, hz2⟩ := info_parts Try.info9
  have hcl := fun ats ty => run_close_open (P := Try.prog) (w := w) ats ty hc
  have hcs : c < w.heap.size := by
    apply Classical.byContradiction
    intro hn
    rw [Array.getElem?_eq_none (by omega)] at hc
    cases hc
  have HC := Lib.hid hc
  clear hc
  go_enter Try.func34, Try.ntmps34
  go_wp2
  go_loopw [3] (fun v wr => Draining w.heap.size c cap s tm ts w v wr) (fun _ wr => chanLen c wr)
  case atStart =>
    exact ⟨[], ts, r, rfl, heap_setChan w c cap _ true s r tm hcs, World.ownsRow_nil _ _ _ _, below_setChan (Below.refl _ _) (Nat.le_refl _) _ _ _ _ _ _, by simp⟩
  case round =>
    obtain ⟨l, m, r', hlm, hcr, hown, hnx, hBs⟩ := hrel
    cases m with
    | nil =>
      go_upto_region 4 with (fail)
      refine wp_recv_shut rfl (c := c) (z := .string ⟨#[]⟩) ?_ hcr ?_
      · simp [go_sem, execOp, rcase, Act.eval]
      · rw [List.append_nil] at hlm
        subst hlm
        go_wp2
        go_ret
        exact ⟨_, rfl, hown, hnx⟩
    | cons t m =>
      have hll : l.length < ts.length := by rw [← hlm]; simp
      have HL := Lib.hid hlm
      have HCL := Lib.hid (chanLen_of hcr)
      clear hlm
      go_upto_region 4 with (fail)
      refine wp_recv_buf rfl (c := c) (z := .string ⟨#[]⟩) ?_ hcr (by simp [scells]) ?_
      · simp [go_sem, execOp, rcase, Act.eval]
      · have e1 : (scells (t :: m)).toArray.getD 0 undef = .string t := by simp [scells]
        have e2 : (scells (t :: m)).toArray.extract 1 (scells (t :: m)).toArray.size = (scells m).toArray := scells_tail t m
        rw [e1, e2]
        have hc1 := heap_setChan wr c cap (scells m).toArray true s (r' + 1) tm (by omega)
        have hown1 := own_setChan hcs hown cap (scells m).toArray true s (r' + 1) tm
        have hnx1 := below_setChan hnx (Nat.le_refl c) cap (scells m).toArray true s (r' + 1) tm
        have hs1 : w.heap.size ≤ (wr.setChan c cap (scells m).toArray true s (r' + 1) tm).heap.size := by rw [size_setChan]; exact hBs
        clear e1 e2 hcr hown hnx
        generalize wr.setChan c cap (scells m).toArray true s (r' + 1) tm = W at hc1 hown1 hnx1 hs1 ⊢
        have HC1 := Lib.hid hc1
        clear hc1
        go_wp2_with (at_builtin; refine wpList_append_own _ rfl _ _ 39 rfl w.heap.size 9 i0 (.string ⟨#[]⟩) 1 16 Try.underlying39 hi hz0 hz1 hz2 rfl (by decide) _ _ _ rfl (hown1.alloc _) ⟨W.heap.size, 0, none⟩ 1 1 [.string t] rfl rfl ?c1 ?c2 ?c3 ?c4 ?c5 ?_)
        case c1 =>
          intro j y hj
          match j, hj with
          | 0, hj => simp at hj; subst hj; simp [Addr.add]
        case c2 => intro y hy; simp at hy; subst hy; rfl
        case c3 => unfold maxLen; omega
        case c4 => omega
        case c5 => simp; omega
        intro v' w1 hown' hgrow _
        have R := str_snoc t hcs hs1 hown1 HC1.out hnx1 hown' hgrow
        clear hown' hgrow hown1 hnx1 hs1
        have HR := Lib.hid R
        clear R
        go_wp2
        go_roundw
        case rel => exact ⟨l ++ [t], m, r' + 1, by rw [List.append_assoc]; exact HL.out, HR.out.2.1, HR.out.1, HR.out.2.2.1, HR.out.2.2.2⟩
        case measure => rw [chanLen_of HR.out.2.1, HCL.out]; simp [scells]
end Go.Proofs.Ytlhbeckimhfbfaa
