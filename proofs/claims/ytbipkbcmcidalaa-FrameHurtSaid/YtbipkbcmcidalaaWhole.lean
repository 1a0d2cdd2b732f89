/-
  Contract of whole (package frame): records handed on one by one, each with the place where its bytes end.
-/
import Derived.Test.YtbipkbcmcidalaaFrame
import Derived.RangeFuncNested
import Derived.RangeFuncBound
import Derived.RangeFuncCalls
import Derived.RangeFuncLeaves
import Derived.RangeFuncBox
import Derived.Shelf.Abstract
import Derived.Shelf.RegionOpen
import Derived.WalkKit
import Derived.OwnWalkIn
import Derived.TacticsInMore
import Derived.LoopNIn
import Derived.LoopIn
namespace Go.Proofs.Ytbipkbcmcidalaa.Frame
open Go.ChangeShapes Go.WideShapes Go.ChangeAt Go.RowKit Go.Lib Go.Shelf
open Go.Proofs.Ytbipkbcmcidalaa.Crc (four crcOn crcOn_lt U32B TextB Of_eq Bytes_any)
attribute [local go_sem] Oper.semAt_some

/-- A record, with the place where its bytes end. -/
abbrev PR := ByteArray × Int
/-- What yield is handed. -/
def encPR (x : PR) : Array Value := #[.string x.1, .int .i64 x.2]

theorem grown_of_below {W W' : World} (h : Below W.heap.size W W') : W.grownBy W' none := ⟨h.os, h.tape, h.output, h.size, fun k hk _ => h.block k hk⟩

/-- What has come, and what is left. -/
inductive Part (m : Nat) (s : ByteArray) : List PR → ByteArray → Prop
  | none : Part m s [] s
  | more (pre : List PR) (r d r' : ByteArray) : Part m s pre r → Is r d r' → Part m s (pre ++ [(d, (m : Int) - r'.size)]) r'
theorem part_hands {m : Nat} {s : ByteArray} {pre : List PR} {r : ByteArray} (h : Part m s pre r) : ∀ {xs t}, Hands m r xs t → Hands m s (pre ++ xs) t := by
  induction h with
  | none => exact fun hx => hx
  | more pre r d r' _ hi ih =>
    intro xs t hx
    have := ih (.more _ _ _ _ _ hi hx)
    simpa using this
theorem hands_det {m : Nat} {s : ByteArray} {xs : List PR} {t : ByteArray} (h : Hands m s xs t) : ∀ {ys u}, Hands m s ys u → xs = ys ∧ t = u := by
  induction h with
  | done s hn =>
    intro ys u h'
    cases h' with
    | done => exact ⟨rfl, rfl⟩
    | more _ d r l _ hi => exact absurd hi (hn _ _)
  | more s d r xs t hi _ ih =>
    intro ys u h'
    cases h' with
    | done _ hn => exact absurd hi (hn _ _)
    | more _ d' r' l _ hi' hr' =>
      obtain ⟨rfl, rfl⟩ := is_det hi hi'
      obtain ⟨rfl, rfl⟩ := ih hr'
      exact ⟨rfl, rfl⟩
theorem hands_some (m : Nat) (n : Nat) : ∀ s : ByteArray, s.size ≤ n → ∃ l t, Hands m s l t := by
  induction n with
  | zero => exact fun s h => ⟨[], s, .done s (no_short (by omega))⟩
  | succ n ih =>
    intro s h
    rcases is_or s with ⟨d, r, hi⟩ | hn
    · obtain ⟨l, t, hl⟩ := ih r (by have := is_size hi; omega)
      exact ⟨_, t, .more _ _ _ _ _ hi hl⟩
    · exact ⟨[], s, .done s hn⟩
theorem part_size {m : Nat} {s : ByteArray} {pre : List PR} {r : ByteArray} (h : Part m s pre r) : r.size + 5 * pre.length ≤ s.size := by
  induction h with
  | none => simp
  | more pre r d r' _ hi ih => have := is_size hi; simp; omega

/-- What a round keeps: what lay below n₀, and block Bs. -/
def KeepB (Bs n₀ : Nat) (A B : World) : Prop := Below n₀ A B ∧ B.heap[Bs]? = A.heap[Bs]?
theorem KeepB.refl (Bs n₀ : Nat) (W : World) : KeepB Bs n₀ W W := ⟨Below.refl _ _, rfl⟩
theorem KeepB.trans {Bs n₀ : Nat} {A B C : World} (h : KeepB Bs n₀ A B) (k : KeepB Bs n₀ B C) : KeepB Bs n₀ A C := ⟨h.1.trans k.1, k.2.trans h.2⟩
theorem KeepB.cell {Bs n₀ : Nat} {A B : World} (h : KeepB Bs n₀ A B) : B.cell? ⟨Bs, 0, none⟩ = A.cell? ⟨Bs, 0, none⟩ := World.cell?_of_block h.2
theorem KeepB.of_below {Bs n₀ : Nat} {A B : World} (h : Below A.heap.size A B) (hB : Bs < A.heap.size) (hn : n₀ ≤ A.heap.size) : KeepB Bs n₀ A B := ⟨h.mono hn, h.block _ hB⟩
theorem KeepB.put {Bs n₀ : Nat} {w : World} (hB : Bs < w.heap.size) (hn : n₀ ≤ w.heap.size) (W : World) (l : Nat) (o o' : Obj) (hl : w.heap.size ≤ l) (h : W.heap[l]? = some o) (h1 : o.isCells = false) (h2 : o.isWalk = false) : KeepB Bs n₀ W (W.putObj l o') :=
  ⟨belowK_b hn W l o o' hl h h1 h2, World.putObj_heap_other (by omega)⟩

def textLen : Value → Nat
  | .string r => r.size
  | _ => 0

set_option maxRecDepth 100000 in
set_option maxHeartbeats 2000000 in
theorem whole1_in (n : Nat) (hn : 1 ≤ n) (l Bs n₀ : Nat) (s : ByteArray) (xs : List PR) (t : ByteArray) (hs : s.size ≤ maxLen) (hH : Hands s.size s xs t) (J Jx : List PR → World → Prop)
    (hJ : ∀ pre W W', J pre W → Below W.heap.size W W' → J pre W')
    (hY : ∀ pre x W, J pre W → pre.length < xs.length → YieldAt Fence.wide (n - 1) Try.prog l (encPR x) W fun e W' =>
      (e = .returned (.bool true) ∧ J (pre ++ [x]) W' ∧ KeepB Bs n₀ W W') ∨ (e = .returned (.bool false) ∧ Jx (pre ++ [x]) W'))
    (W : World) (hBs : W.cell? ⟨Bs, 0, none⟩ = some (.string s)) (hBz : n₀ ≤ W.heap.size) (hBl : Bs < W.heap.size) (h0 : J [] W) :
    CallsIn Fence.wide n Try.prog 28 #[.func (.yield l) #[] #[], .pointer (some ⟨Bs, 0, none⟩)] W fun e W' => (∃ v, e = .returned v) ∧
      ((∃ ys, ys = xs ∧ J ys W') ∨ (∃ pre, True ∧ Jx pre W')) := by
  refine callsIn_of_wp Try.func28 rfl trivial ?_ rfl
  simp only [Try.ntmps28, List.size_toArray, List.length_cons, List.length_nil, Nat.reduceAdd, Nat.reduceSub, Array.replicate_succ, Array.replicate_zero, List.push_toArray, List.append_toArray, List.nil_append, List.cons_append]
  gi_wp2
  gi_loopw [3] (fun i wr => ∃ pre r, i = .string r ∧ Part s.size s pre r ∧ J pre wr ∧ KeepB Bs n₀ W wr)
    (fun i _ => textLen i)
  case atStart => exact ⟨[], s, rfl, .none, h0, KeepB.refl _ _ _⟩
  case round =>
    obtain ⟨pre, r, rfl, hp, hJs, hnx⟩ := hrel
    have hps := part_size hp
    have HS := Lib.hid hs
    rcases is_or r with ⟨d, r', hi⟩ | hno
    · have his := is_size hi
      have hm : s.size ≤ 9223372036854775807 := hs
      have HF := Lib.hid (first_is hi (by unfold maxLen; omega) wr)
      have HP := Lib.hid (Part.more pre r d r' hp hi)
      have HR := Lib.hid (hands_det hH (part_hands HP.out (hands_some s.size _ r' (Nat.le_refl _)).choose_spec.choose_spec)).1
      clear hs hp hi hH
      gi_wp2_with fail
      refine ⟨trivial, (callsIn_wide.2 HF.out).mono ?_⟩
      rintro e x ⟨rfl, hx⟩
      have hJx := hJ _ _ _ hJs hx
      have hnx' := hnx.trans (.of_below hx (Nat.lt_of_lt_of_le hBl hnx.1.size) (Nat.le_trans hBz hnx.1.size))
      have hcell := hnx'.cell.trans hBs
      clear hx hJs hnx
      obtain ⟨fn, tmps, assign, body, hy, hR⟩ := hY pre (d, (s.size : Int) - r'.size) x hJx (by rw [HR.out]; simp)
      unfold encPR at hy
      dsimp only at hy
      have HN := Lib.hid hnx'
      clear hnx'
      gi_wp2
      refine hR.mono ?_
      rintro e W3 (⟨rfl, hJ3, hk3⟩ | ⟨rfl, hJx3⟩)
      · gi_wp2
        go_roundw
        case rel => exact ⟨_, r', rfl, HP.out, hJ3, HN.out.trans hk3⟩
        case measure => simp [textLen]; omega
      · gi_wp2
        refine bodyPost_ret (results_none rfl _ _ _) rfl ?_
        exact ⟨⟨_, rfl⟩, .inr ⟨_, trivial, hJx3⟩⟩
    · have HF := Lib.hid (first_no hno (by omega) wr)
      have HR := Lib.hid (hands_det hH (part_hands hp (.done r hno))).1
      gi_wp2_with fail
      refine ⟨trivial, (callsIn_wide.2 HF.out).mono ?_⟩
      rintro e x ⟨rfl, hx⟩
      have hJx := hJ _ _ _ hJs hx
      gi_wp2_with fail
      refine ⟨fun _ h => (by cases h), ?_⟩
      gi_wp2_with fail
      refine bodyPost_ret (results_none rfl _ _ _) rfl ?_
      exact ⟨⟨_, rfl⟩, .inl ⟨pre, by rw [HR.out, List.append_nil], hJx⟩⟩

theorem whole_any (s : ByteArray) (w : World) : Calls Try.prog 19 #[.string s] w fun e w' => e = .returned (.func (.func 28) #[] #[.pointer (some ⟨w.heap.size, 0, none⟩)]) ∧ w' = w.alloc (.cells #[.string s] 9) := by
  go_enter Try.func19, Try.ntmps19
  go_wp2
  go_ret
  exact ⟨rfl, rfl⟩

/-- What whole hands back goes through the records from the first on. -/
theorem whole_stops (n : Nat) (hn : 1 ≤ n) (Bs n₀ : Nat) (s : ByteArray) (xs : List PR) (t : ByteArray) (hs : s.size ≤ maxLen) (hH : Hands s.size s xs t) (w : World) (hBn : Bs < w.heap.size) (hn₀ : n₀ ≤ w.heap.size) (hc : w.cell? ⟨Bs, 0, none⟩ = some (.string s)) :
    SeqStopsK Fence.wide n Try.prog 28 #[.pointer (some ⟨Bs, 0, none⟩)] encPR (KeepB Bs n₀) (fun ys => ys = xs) (fun _ => True) xs.length w := fun l J Jx W hW hJ _ hY h0 => by
  have hc' := (hW.cell (p := ⟨Bs, 0, none⟩) hBn).trans hc
  exact whole1_in n hn l Bs n₀ s xs t hs hH J Jx (fun pre A B h hb => hJ pre A B none h (grown_of_below hb) (fun r e => by cases e)) hY W hc' (Nat.le_trans hn₀ hW.size) (Nat.lt_of_lt_of_le hBn hW.size) h0
end Go.Proofs.Ytbipkbcmcidalaa.Frame
