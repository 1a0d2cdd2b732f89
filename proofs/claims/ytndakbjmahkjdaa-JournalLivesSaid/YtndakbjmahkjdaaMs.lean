/-
  Joined: JHalf, Whole, Scan.
-/
import Derived.Test.YtndakbjmahkjdaaMp
import Derived.Test.YtndakbjmahkjdaaMr
import Derived.Test.YtndakbjmahkjdaaMq
import Derived.RangeFuncNested
import Derived.RangeFuncBound
import Derived.RangeFuncCalls
import Derived.RangeFuncLeaves
import Derived.RangeFuncBox
import Derived.Shelf.Abstract
import Derived.Shelf.RegionOpen
import Derived.WalkKit
import Derived.OwnWalkIn
import Derived.TacticsInMore
import Derived.LoopNIn
import Derived.LoopIn
import Derived.Maps.AppendAt
import Derived.Sort.QuietIn

/-
  Contract of halfOf (package journal): a half's bytes.
-/
namespace Go.Proofs.Ytndakbjmahkjdaa.Disk.Jn
open Go.ChangeShapes Go.WideShapes Go.ChangeAt Go.RowKit Go.Lib

theorem join_none : ∀ l : List (List UInt8), Lib.join l [] = l.flatten
  | [] => rfl
  | [x] => by simp [Lib.join, List.intercalate]
  | x :: y :: r => by
    have := join_none (y :: r)
    simp only [Lib.join, List.intercalate, List.intersperse, List.flatten_cons, List.nil_append] at this ⊢
    rw [this]

set_option maxHeartbeats 2000000 in
set_option maxRecDepth 100000 in
theorem halfOf_any {vS vW : Value} {ls : List ByteArray} {w : World} (hS : SRow w vS ls) (h8 : 8 ≤ ls.length) (hn : ls.length ≤ 1000) (h64 : Secs64 ls) {half : Nat} (hh : half ≤ 1) :
    Calls Try.prog 25 #[.agg #[vS, vW], .int .i64 half] w (TextB ⟨(bytesOf ls half).toArray⟩ w) := by
  have hle := hs_le h8 hh
  have hb2 := begN_two ls.length half
  have hs1 : 1 ≤ hsN ls.length := by unfold hsN; omega
  obtain ⟨aS, cap, rfl⟩ := hS.slice
  have hat := hS.at (q := 0) (by omega)
  obtain ⟨g, rfl, hc, hg, hx0⟩ := hat
  clear hx0
  have hlen := bytesOf_len h64 h8 hh
  have hroom : roomN ls.length ≤ 64000 := by unfold roomN hsN; omega
  have HJ : Hid (∀ W, Below w.heap.size w W → Calls Try.prog 49 #[.slice (some ⟨g, begN ls.length half, none⟩) (hsN ls.length) (cap - begN ls.length half), .string ⟨#[]⟩] W (TextB ⟨(bytesOf ls half).toArray⟩ W)) := fun W hW => by
    have hSW := hS.below hW
    have hl : ((ls.drop (begN ls.length half)).take (hsN ls.length)).length = hsN ls.length := by rw [List.length_take, List.length_drop]; omega
    have e : Lib.join (((ls.drop (begN ls.length half)).take (hsN ls.length)).map (·.data.toList)) (⟨#[]⟩ : ByteArray).data.toList = bytesOf ls half := by
      rw [show (⟨#[]⟩ : ByteArray).data.toList = [] from rfl, join_none, bytesOf, List.flatMap_def]
    have := Try.strings_Join g (begN ls.length half) (cap - begN ls.length half) ((ls.drop (begN ls.length half)).take (hsN ls.length)) ⟨#[]⟩ W (by
      intro j x hj
      rw [List.getElem?_take, List.getElem?_drop] at hj
      split at hj
      · obtain ⟨hlt, hx⟩ := List.getElem?_eq_some_iff.1 hj
        obtain ⟨g', eg, _, _, hce⟩ := hSW.at hlt
        cases eg
        rw [hce, hx]
      · cases hj) (Nat.lt_of_lt_of_le hg hW.size) (by omega) (by omega) (by rw [e, hlen]; omega)
    rw [hl, e] at this
    exact this
  have HB := Lib.hid (fun W => begin_any (some ⟨g, 0, none⟩) ls.length cap vW half W (by omega) hn hh)
  have HH := Lib.hid (fun W => halfSectors_any (some ⟨g, 0, none⟩) ls.length cap vW W (by omega) hn)
  have HA := Lib.hid (Box.made w [.slice (some ⟨g, 0, none⟩) ls.length cap, vW] 25)
  generalize (bytesOf ls half) = bl at HJ
  generalize begN ls.length half = at_ at *
  generalize hsN ls.length = hs at *
  clear hS h64 hlen hroom
  generalize ls.length = n at *
  go_enter Try.func25, Try.ntmps25
  go_wp2_with fail
  refine (HB.out _).mono ?_
  rintro e X ⟨rfl, hx⟩
  have HX := Lib.hid (Box.below HA.out hx)
  have HBX := Lib.hid (below_trans (al w _) hx)
  clear hx
  go_upto_region 2 with (fail)
  have HBD := Lib.hid ((Below.refl X.heap.size X).drew)
  obtain ⟨q, hq1, hq2⟩ : ∃ q : Nat, (at_ : Int) + hs = q ∧ q = at_ + hs := ⟨at_ + hs, by omega, rfl⟩
  have hwr : IntKind.i64.wrap ((at_ : Int) + (hs : Int)) = (q : Int) := by rw [IntWalk.i64_in _ (by omega)]; exact hq1
  have HQ : Hid (q - at_ = hs) := by unfold Hid; omega
  have hce : (cap = at_) = False := by
    apply eq_false
    omega
  have i1 : (0 : Int) ≤ (at_ : Int) := by omega
  have i2 : (at_ : Int) ≤ (q : Int) := by omega
  have i3 : (q : Int) ≤ (cap : Int) := by omega
  obtain ⟨b0, b1⟩ := HX.out.c2
  rw [← HQ.out] at HJ
  clear hq1 hq2
  go_region_held3 (fun w' => w'.cell? ⟨w.heap.size, 0, none⟩ = some (.slice (some ⟨g, 0, none⟩) n cap) ∧ w'.cell? ⟨w.heap.size, 1, none⟩ = some vW)
    (first | exact ⟨b0, b1⟩ | exact (HX.out.below HBY.out).c2 | exact (HX.out.below HBZ.out).c2 | fail)
    (first
      | (go_at_call 50; (with_reducible refine (HH.out _).mono ?_); rintro e Y ⟨rfl, hy⟩; have HBY := Lib.hid (below_trans HBD.out hy); clear hy)
      | (go_at_call 49; (with_reducible refine (HJ.out _ (below_trans HBX.out HBY.out)).mono ?_); rintro e Z ⟨rfl, hy⟩; have HBZ := Lib.hid (below_trans HBY.out hy); clear hy)
      | fail)
  go_wp2_with fail
  go_ret
  exact ⟨rfl, below_trans HBX.out HBZ.out⟩
end Go.Proofs.Ytndakbjmahkjdaa.Disk.Jn

/-
  Contract of whole (package frame): records handed on one by one, each with the place where its bytes end.
-/
namespace Go.Proofs.Ytndakbjmahkjdaa.Frame
open Go.ChangeShapes Go.WideShapes Go.ChangeAt Go.RowKit Go.Lib Go.Shelf
open Go.Proofs.Ytndakbjmahkjdaa.Crc (four crcOn crcOn_lt U32B TextB Of_eq Bytes_any)
attribute [local go_sem] Oper.semAt_some

/-- A record, with the place where its bytes end. -/
abbrev PR := ByteArray × Int
/-- What yield is handed. -/
def encPR (x : PR) : Array Value := #[.string x.1, .int .i64 x.2]

theorem grown_of_below {W W' : World} (h : Below W.heap.size W W') : W.grownBy W' none := ⟨h.os, h.tape, h.output, h.size, fun k hk _ => h.block k hk⟩

/-- What has come, and what is left. -/
inductive Part (m : Nat) (s : ByteArray) : List PR → ByteArray → Prop
  | none : Part m s [] s
  | more (pre : List PR) (r d r' : ByteArray) : Part m s pre r → Is r d r' → Part m s (pre ++ [(d, (m : Int) - r'.size)]) r'
theorem part_hands {m : Nat} {s : ByteArray} {pre : List PR} {r : ByteArray} (h : Part m s pre r) : ∀ {xs t}, Hands m r xs t → Hands m s (pre ++ xs) t := by
  induction h with
  | none => exact fun hx => hx
  | more pre r d r' _ hi ih =>
    intro xs t hx
    have := ih (.more _ _ _ _ _ hi hx)
    simpa using this
theorem hands_det {m : Nat} {s : ByteArray} {xs : List PR} {t : ByteArray} (h : Hands m s xs t) : ∀ {ys u}, Hands m s ys u → xs = ys ∧ t = u := by
  induction h with
  | done s hn =>
    intro ys u h'
    cases h' with
    | done => exact ⟨rfl, rfl⟩
    | more _ d r l _ hi => exact absurd hi (hn _ _)
  | more s d r xs t hi _ ih =>
    intro ys u h'
    cases h' with
    | done _ hn => exact absurd hi (hn _ _)
    | more _ d' r' l _ hi' hr' =>
      obtain ⟨rfl, rfl⟩ := is_det hi hi'
      obtain ⟨rfl, rfl⟩ := ih hr'
      exact ⟨rfl, rfl⟩
theorem hands_some (m : Nat) (n : Nat) : ∀ s : ByteArray, s.size ≤ n → ∃ l t, Hands m s l t := by
  induction n with
  | zero => exact fun s h => ⟨[], s, .done s (no_short (by omega))⟩
  | succ n ih =>
    intro s h
    rcases is_or s with ⟨d, r, hi⟩ | hn
    · obtain ⟨l, t, hl⟩ := ih r (by have := is_size hi; omega)
      exact ⟨_, t, .more _ _ _ _ _ hi hl⟩
    · exact ⟨[], s, .done s hn⟩
theorem part_size {m : Nat} {s : ByteArray} {pre : List PR} {r : ByteArray} (h : Part m s pre r) : r.size + 5 * pre.length ≤ s.size := by
  induction h with
  | none => simp
  | more pre r d r' _ hi ih => have := is_size hi; simp; omega

/-- What a round keeps: what lay below n₀, and block Bs. -/
def KeepB (Bs n₀ : Nat) (A B : World) : Prop := Below n₀ A B ∧ B.heap[Bs]? = A.heap[Bs]?
theorem KeepB.refl (Bs n₀ : Nat) (W : World) : KeepB Bs n₀ W W := ⟨Below.refl _ _, rfl⟩
theorem KeepB.trans {Bs n₀ : Nat} {A B C : World} (h : KeepB Bs n₀ A B) (k : KeepB Bs n₀ B C) : KeepB Bs n₀ A C := ⟨h.1.trans k.1, k.2.trans h.2⟩
theorem KeepB.cell {Bs n₀ : Nat} {A B : World} (h : KeepB Bs n₀ A B) : B.cell? ⟨Bs, 0, none⟩ = A.cell? ⟨Bs, 0, none⟩ := World.cell?_of_block h.2
theorem KeepB.of_below {Bs n₀ : Nat} {A B : World} (h : Below A.heap.size A B) (hB : Bs < A.heap.size) (hn : n₀ ≤ A.heap.size) : KeepB Bs n₀ A B := ⟨h.mono hn, h.block _ hB⟩
theorem KeepB.put {Bs n₀ : Nat} {w : World} (hB : Bs < w.heap.size) (hn : n₀ ≤ w.heap.size) (W : World) (l : Nat) (o o' : Obj) (hl : w.heap.size ≤ l) (h : W.heap[l]? = some o) (h1 : o.isCells = false) (h2 : o.isWalk = false) : KeepB Bs n₀ W (W.putObj l o') :=
  ⟨belowK_b hn W l o o' hl h h1 h2, World.putObj_heap_other (by omega)⟩

def textLen : Value → Nat
  | .string r => r.size
  | _ => 0

set_option maxRecDepth 100000 in
set_option maxHeartbeats 2000000 in
theorem whole1_in (n : Nat) (hn : 1 ≤ n) (l Bs n₀ : Nat) (s : ByteArray) (xs : List PR) (t : ByteArray) (hs : s.size ≤ maxLen) (hH : Hands s.size s xs t) (J Jx : List PR → World → Prop)
    (hJ : ∀ pre W W', J pre W → Below W.heap.size W W' → J pre W')
    (hY : ∀ pre x W, J pre W → pre.length < xs.length → YieldAt Fence.wide (n - 1) Try.prog l (encPR x) W fun e W' =>
      (e = .returned (.bool true) ∧ J (pre ++ [x]) W' ∧ KeepB Bs n₀ W W') ∨ (e = .returned (.bool false) ∧ Jx (pre ++ [x]) W'))
    (W : World) (hBs : W.cell? ⟨Bs, 0, none⟩ = some (.string s)) (hBz : n₀ ≤ W.heap.size) (hBl : Bs < W.heap.size) (h0 : J [] W) :
    CallsIn Fence.wide n Try.prog 77 #[.func (.yield l) #[] #[], .pointer (some ⟨Bs, 0, none⟩)] W fun e W' => (∃ v, e = .returned v) ∧
      ((∃ ys, ys = xs ∧ J ys W') ∨ (∃ pre, True ∧ Jx pre W')) := by
  refine callsIn_of_wp Try.func77 rfl trivial ?_ rfl
  simp only [Try.ntmps77, List.size_toArray, List.length_cons, List.length_nil, Nat.reduceAdd, Nat.reduceSub, Array.replicate_succ, Array.replicate_zero, List.push_toArray, List.append_toArray, List.nil_append, List.cons_append]
  gi_wp2
  gi_loopw [3] (fun i wr => ∃ pre r, i = .string r ∧ Part s.size s pre r ∧ J pre wr ∧ KeepB Bs n₀ W wr)
    (fun i _ => textLen i)
  case atStart => exact ⟨[], s, rfl, .none, h0, KeepB.refl _ _ _⟩
  case round =>
    obtain ⟨pre, r, rfl, hp, hJs, hnx⟩ := hrel
    have hps := part_size hp
    have HS := Lib.hid hs
    rcases is_or r with ⟨d, r', hi⟩ | hno
    · have his := is_size hi
      have hm : s.size ≤ 9223372036854775807 := hs
      have HF := Lib.hid (first_is hi (by unfold maxLen; omega) wr)
      have HP := Lib.hid (Part.more pre r d r' hp hi)
      have HR := Lib.hid (hands_det hH (part_hands HP.out (hands_some s.size _ r' (Nat.le_refl _)).choose_spec.choose_spec)).1
      clear hs hp hi hH
      gi_wp2_with fail
      refine ⟨trivial, (callsIn_wide.2 HF.out).mono ?_⟩
      rintro e x ⟨rfl, hx⟩
      have hJx := hJ _ _ _ hJs hx
      have hnx' := hnx.trans (.of_below hx (Nat.lt_of_lt_of_le hBl hnx.1.size) (Nat.le_trans hBz hnx.1.size))
      have hcell := hnx'.cell.trans hBs
      clear hx hJs hnx
      obtain ⟨fn, tmps, assign, body, hy, hR⟩ := hY pre (d, (s.size : Int) - r'.size) x hJx (by rw [HR.out]; simp)
      unfold encPR at hy
      dsimp only at hy
      have HN := Lib.hid hnx'
      clear hnx'
      gi_wp2
      refine hR.mono ?_
      rintro e W3 (⟨rfl, hJ3, hk3⟩ | ⟨rfl, hJx3⟩)
      · gi_wp2
        go_roundw
        case rel => exact ⟨_, r', rfl, HP.out, hJ3, HN.out.trans hk3⟩
        case measure => simp [textLen]; omega
      · gi_wp2
        refine bodyPost_ret (results_none rfl _ _ _) rfl ?_
        exact ⟨⟨_, rfl⟩, .inr ⟨_, trivial, hJx3⟩⟩
    · have HF := Lib.hid (first_no hno (by omega) wr)
      have HR := Lib.hid (hands_det hH (part_hands hp (.done r hno))).1
      gi_wp2_with fail
      refine ⟨trivial, (callsIn_wide.2 HF.out).mono ?_⟩
      rintro e x ⟨rfl, hx⟩
      have hJx := hJ _ _ _ hJs hx
      gi_wp2_with fail
      refine ⟨fun _ h => (by cases h), ?_⟩
      gi_wp2_with fail
      refine bodyPost_ret (results_none rfl _ _ _) rfl ?_
      exact ⟨⟨_, rfl⟩, .inl ⟨pre, by rw [HR.out, List.append_nil], hJx⟩⟩

theorem whole_any (s : ByteArray) (w : World) : Calls Try.prog 66 #[.string s] w fun e w' => e = .returned (.func (.func 77) #[] #[.pointer (some ⟨w.heap.size, 0, none⟩)]) ∧ w' = w.alloc (.cells #[.string s] 9) := by
  go_enter Try.func66, Try.ntmps66
  go_wp2
  go_ret
  exact ⟨rfl, rfl⟩

/-- What whole hands back goes through the records from the first on. -/
theorem whole_stops (n : Nat) (hn : 1 ≤ n) (Bs n₀ : Nat) (s : ByteArray) (xs : List PR) (t : ByteArray) (hs : s.size ≤ maxLen) (hH : Hands s.size s xs t) (w : World) (hBn : Bs < w.heap.size) (hn₀ : n₀ ≤ w.heap.size) (hc : w.cell? ⟨Bs, 0, none⟩ = some (.string s)) :
    SeqStopsK Fence.wide n Try.prog 77 #[.pointer (some ⟨Bs, 0, none⟩)] encPR (KeepB Bs n₀) (fun ys => ys = xs) (fun _ => True) xs.length w := fun l J Jx W hW hJ _ hY h0 => by
  have hc' := (hW.cell (p := ⟨Bs, 0, none⟩) hBn).trans hc
  exact whole1_in n hn l Bs n₀ s xs t hs hH J Jx (fun pre A B h hb => hJ pre A B none h (grown_of_below hb) (fun r e => by cases e)) hY W hc' (Nat.le_trans hn₀ hW.size) (Nat.lt_of_lt_of_le hBn hW.size) h0
end Go.Proofs.Ytndakbjmahkjdaa.Frame

/-
  Contracts of Scan and All (package frame): the records of a text, as far as they are whole, and how many bytes they have.
-/
namespace Go.Proofs.Ytndakbjmahkjdaa.Frame
open Go.ChangeShapes Go.WideShapes Go.ChangeAt Go.RowKit Go.Lib Go.Shelf
attribute [local go_sem] Oper.semAt_some

/-- The records handed on. -/
def recs (xs : List PR) : List ByteArray := xs.map Prod.fst
theorem recs_len (xs : List PR) : (recs xs).length = xs.length := by simp [recs]
theorem recs_snoc (xs : List PR) (x : PR) : scells (recs (xs ++ [x])) = scells (recs xs) ++ [.string x.1] := by simp [recs, scells]

/-- What stands between two rounds of Scan. -/
def ScanI (w : World) (b0 : Nat) (pre : List PR) (W : World) : Prop :=
  (∃ v, Boxed W w.heap.size 22 v ∧ W.ownsRow b0 9 1 v pre.length (scells (recs pre)) ∧ (v = .slice none 0 0 ↔ pre = [])) ∧ Boxed W (w.heap.size + 1) 3 (.int .i64 (endOf pre)) ∧ Below w.heap.size w W ∧ b0 ≤ W.heap.size
theorem boxed_ownF {β : Type} (B : Nat) (t : TypeId) (f : β → Value) : Own (fun s W => Boxed W B t (f s)) := fun s X Y row hs hg hrow =>
  hs.kept hg (fun e' => by obtain ⟨o, ho, hc⟩ := hrow B e'.symm; rw [show X.heap[B]? = _ from hs] at ho; cases ho; cases hc)
theorem scanI_own (w : World) (b0 B : Nat) (hB : w.heap.size ≤ B) : OwnFrom B (ScanI w b0) :=
  OwnFrom.and (Own.from (holdsRow_own b0 w.heap.size 22 9 1 (fun pre : List PR => pre.length) (fun pre => scells (recs pre)) (fun pre v => v = .slice none 0 0 ↔ pre = [])) _)
    (OwnFrom.and (Own.from (boxed_ownF _ _ _) _) (OwnFrom.and (ownFrom_below (Nat.le_refl _) hB) (fun _ _ _ _ hs hg _ => Nat.le_trans hs hg.size)))
theorem scan_step {w W w1 : World} {b0 : Nat} (hb0 : w.heap.size + 1 + 1 + 1 ≤ b0) {pre : List PR} {x : PR} {v v' : Value} {tmp : Obj} {c : Value}
    (hv : Boxed W w.heap.size 22 v) (hrow : W.ownsRow b0 9 1 v pre.length (scells (recs pre))) (hE : Boxed W (w.heap.size + 1) 3 c) (hB : Below w.heap.size w W) (hz : b0 ≤ W.heap.size)
    (hown' : w1.ownsRow b0 9 1 v' (pre.length + 1) (scells (recs pre) ++ [.string x.1])) (hgrow : (W.alloc tmp).grownBy w1 v.ownBlock) :
    Boxed w1 w.heap.size 22 v ∧ Boxed (w1.setCell ⟨w.heap.size, 0, none⟩ v') (w.heap.size + 1) 3 c ∧
    KeepsOthers W ((w1.setCell ⟨w.heap.size, 0, none⟩ v').setCell ⟨w.heap.size + 1, 0, none⟩ (.int .i64 x.2)) ∧
    KeepB (w.heap.size + 1 + 1) w.heap.size W ((w1.setCell ⟨w.heap.size, 0, none⟩ v').setCell ⟨w.heap.size + 1, 0, none⟩ (.int .i64 x.2)) ∧
    ScanI w b0 (pre ++ [x]) ((w1.setCell ⟨w.heap.size, 0, none⟩ v').setCell ⟨w.heap.size + 1, 0, none⟩ (.int .i64 x.2)) := by
  have hsz : W.heap.size ≤ w1.heap.size := by have := hgrow.size; simp at this; omega
  have hlow : Below b0 W w1 := ((Below.refl b0 W).alloc hz tmp).grown hgrow (by simp; omega) fun j ej => (hrow.lt j ej).1
  have hv1 : Boxed w1 w.heap.size 22 v := (hlow.block _ (by omega)).trans hv
  have hE1 : Boxed w1 (w.heap.size + 1) 3 c := (hlow.block _ (by omega)).trans hE
  have hnot : ∀ j, j < b0 → v'.ownBlock ≠ some j := fun j hj e => by have := (hown'.lt j e).1; omega
  have hE2 : Boxed (w1.setCell ⟨w.heap.size, 0, none⟩ v') (w.heap.size + 1) 3 c := hE1.kept (grownBy_setCell' _ _ _) (by simp)
  have hv2 : Boxed (w1.setCell ⟨w.heap.size, 0, none⟩ v') w.heap.size 22 v' := hv1.set v'
  have hw1 : Below w.heap.size W w1 := hlow.mono (by omega)
  refine ⟨hv1, hE2, ?_, ⟨?_, ?_⟩, ⟨v', ?_, ?_, ?_⟩, ?_, ?_, ?_⟩
  · refine (((KeepsOthers.alloc W tmp).trans (KeepsOthers.of_grownBy hgrow fun j o ej hj => ?_)).trans (KeepsOthers.setCell _ _ _)).trans (KeepsOthers.setCell _ _ _)
    rcases (hrow.alloc tmp).2 with ⟨rfl, _⟩ | ⟨g, cap, cur, rfl, _, hgb, _⟩
    · simp [Value.ownBlock] at ej
    · obtain rfl : g = j := by simpa [Value.ownBlock] using ej
      rw [hgb] at hj; cases hj; rfl
  · exact (hw1.setCell (p := ⟨w.heap.size, 0, none⟩) (by simp) _).setCell (p := ⟨w.heap.size + 1, 0, none⟩) (by simp) _
  · rw [(grownBy_setCell' (w1.setCell ⟨w.heap.size, 0, none⟩ v') (w.heap.size + 1) (.int .i64 x.2)).block _ ?_ (by simp), (grownBy_setCell' w1 w.heap.size v').block _ ?_ (by simp; omega), hlow.block _ (by omega)]
    · omega
    · have := (grownBy_setCell' w1 w.heap.size v').size; omega
  · exact hv2.kept (grownBy_setCell' _ _ _) (by simp)
  · rw [recs_snoc, List.length_append]
    exact (hown'.kept (grownBy_setCell' w1 w.heap.size v') (.inr (hnot _ (by omega)))).kept (grownBy_setCell' _ _ _) (.inr (hnot _ (by omega)))
  · obtain ⟨g', cap', rfl⟩ := ownsRow_succ hown'
    simp
  · rw [endOf_snoc]; exact hE2.set _
  · exact hB.trans ((hw1.setCell (p := ⟨w.heap.size, 0, none⟩) (by simp) _).setCell (p := ⟨w.heap.size + 1, 0, none⟩) (by simp) _)
  · have h1 := (grownBy_setCell' w1 w.heap.size v').size
    have h2 := (grownBy_setCell' (w1.setCell ⟨w.heap.size, 0, none⟩ v') (w.heap.size + 1) (.int .i64 x.2)).size
    omega
theorem owns_lower {w : World} {b b' : Nat} {e : TypeId} {n : Nat} {v : Value} {xs : List Value} (h : w.ownsRow b e 1 v n xs) (hb : b' ≤ b) : w.ownsRow b' e 1 v n xs := by
  obtain ⟨h1, h2 | ⟨g, cap, cur, e1, e2, rest⟩⟩ := h
  · exact ⟨h1, .inl h2⟩
  · exact ⟨h1, .inr ⟨g, cap, cur, e1, by omega, rest⟩⟩

/-- The records of a text, and a number. -/
def RowN (ls : List ByteArray) (n : Int) (w : World) (e : Ending) (w' : World) : Prop :=
  ∃ v, e = .returned (.tuple #[v, .int .i64 n]) ∧ w'.ownsRow w.heap.size 9 1 v ls.length (scells ls) ∧ (v = .slice none 0 0 ↔ ls = []) ∧ Below w.heap.size w w'

set_option maxRecDepth 100000 in
set_option maxHeartbeats 2000000 in
theorem Scan_hands {s : ByteArray} {xs : List PR} {t : ByteArray} (hH : Hands s.size s xs t) (hs : s.size ≤ 1000000) (w : World) : Calls Try.prog 48 #[.string s] w (RowN (recs xs) (endOf xs) w) := by
  obtain ⟨i0, hi, hz0, hz1, hz2⟩ := info_parts Try.info9
  have hxl : xs.length ≤ 1000000 := by
    have := (scn_bytes (hands_scn hH)).2.2
    rw [List.length_map] at this; omega
  refine (callsIn_wide (n := 5)).1 ?_
  refine callsIn_of_wp_marks Try.func48 rfl trivial ?_ rfl
  simp only [Try.ntmps48, List.size_toArray, List.length_cons, List.length_nil, Nat.reduceAdd, Nat.reduceSub, Array.replicate_succ, Array.replicate_zero, List.push_toArray, List.append_toArray, List.nil_append, List.cons_append]
  gi_wp2_with fail
  refine ⟨trivial, (callsIn_wide.2 (whole_any s _)).mono ?_⟩
  rintro e x ⟨rfl, rfl⟩
  gi_wp2_with fail
  have bO := (Boxed.new w 22 (.slice none 0 0)).alloc (.cells #[.int .i64 0] 3) |>.alloc (.cells #[.string s] 9)
  have bE := (Boxed.new (w.alloc (.cells #[.slice none 0 0] 22)) 3 (.int .i64 0)).alloc (.cells #[.string s] 9)
  have bS := Boxed.new ((w.alloc (.cells #[.slice none 0 0] 22)).alloc (.cells #[.int .i64 0] 3)) 9 (.string s)
  have hB0 : Below w.heap.size w (((w.alloc (.cells #[.slice none 0 0] 22)).alloc (.cells #[.int .i64 0] 3)).alloc (.cells #[.string s] 9)) :=
    (((Below.refl _ w).alloc (Nat.le_refl _) _).alloc (by simp) _).alloc (by simp; omega) _
  have hW0 : (((w.alloc (.cells #[.slice none 0 0] 22)).alloc (.cells #[.int .i64 0] 3)).alloc (.cells #[.string s] 9)).heap.size = w.heap.size + 1 + 1 + 1 := by simp
  simp only [World.size_alloc] at bE bS
  generalize (((w.alloc (.cells #[.slice none 0 0] 22)).alloc (.cells #[.int .i64 0] 3)).alloc (.cells #[.string s] 9)) = W0 at bO bE bS hB0 hW0 ⊢
  refine wpIn_rangeFunc_ownG rfl (by omega) (gf := 77) (lb := #[.pointer (some ⟨w.heap.size + 1 + 1, 0, none⟩)]) rfl trivial (enters_of Try.func77 (by kernel_rfl) rfl)
    (whole_stops _ (by omega) (w.heap.size + 1 + 1) w.heap.size s xs t (by unfold maxLen; omega) hH W0 (by omega) (by omega) bS.cell) KeepB.trans (KeepB.put (by omega) (by omega)) (Below.refl _ _) (fun _ => rfl)
    (ScanI w W0.heap.size) (fun _ _ _ => False) (scanI_own w _ _ (by omega)) (fun _ _ _ _ _ hs _ _ => hs)
    ⟨⟨_, bO, World.ownsRow_nil _ _ _ _, by simp⟩, bE, hB0, Nat.le_refl _⟩
    (fun x => { tmps := #[.string s, undef, .slice none 0 0, .int .i64 0, .pointer (some ⟨w.heap.size, 0, none⟩), .pointer (some ⟨w.heap.size + 1, 0, none⟩), .string x.1, .int .i64 x.2, .string s, .func (.func 77) #[] #[.pointer (some ⟨w.heap.size + 1 + 1, 0, none⟩)], .string x.1, .int .i64 x.2, undef, undef, undef, undef, undef, undef, undef], defers := [] }) ?assign ?body ?done ?stop
  case assign =>
    intro l x W K hK
    simp only [encPR]
    gi_wp2
    exact hK
  case body =>
    rintro l pre x W ⟨⟨v, hv, hrow, hnil⟩, hE, hB, hz⟩ hlt
    have hc := hv.cell
    have HS := Lib.hid (fun (v' : Value) (w1 : World) (tmp : Obj) h1 h2 => scan_step (w1 := w1) (x := x) (v' := v') (tmp := tmp) (by omega) hv hrow hE hB hz h1 h2)
    clear hE hB hnil
    gi_wp2_with (gi_at_builtin; refine wpListIn_append_own _ rfl _ _ 22 rfl W0.heap.size 9 i0 (.string ⟨#[]⟩) 1 16 Try.underlying22 hi hz0 hz1 hz2 rfl (by decide) _ _ _ rfl (hrow.alloc _) ⟨W.heap.size, 0, none⟩ 1 1 [.string x.1] rfl rfl (cell_one_new _ _ _) (by simp [Value.oneCell']) (by unfold maxLen; omega) (by omega) (by simp; omega) ?_; intro v' w1 hown' hgrow _; have HR := HS.out v' w1 _ hown' hgrow; obtain ⟨g', cap', rfl⟩ := ownsRow_succ hown'; have hc1 := HR.1.cell; have hf1 := HR.1.frozen; have hc2 := HR.2.1.cell; have hf2 := HR.2.1.frozen)
    exact ⟨HR.2.2.1.from _, HR.2.2.2.1, HR.2.2.2.2⟩
  case done =>
    rintro D ys W hD rfl ⟨⟨v, hv, hrow, hnil⟩, hE, hB, hz⟩ hK
    have hc := hv.cell
    have hce := hE.cell
    gi_wp2
    gi_quiet (fail)
    gi_wp2
    have hdr : (W.drewN nq).heap[D]? = some (.deferred (some [])) := hK
    refine ⟨by simp, .inl ⟨_, _, rfl, run_takeDeferred hdr, ?_⟩⟩
    have hgd : W.grownBy (W.drewN nq) none := grown_of_below (below_drew W nq)
    refine ⟨_, by simp [results, Try.results48, go_sem]; rfl, ?_⟩
    rw [← recs_len] at hrow
    exact ⟨v, rfl, owns_lower (ownsRow_putObj (hrow.kept hgd (by cases hv : v.ownBlock <;> simp)) _ hdr rfl) (b := W0.heap.size) (by omega), hnil.trans (by simp [recs]), (hB.grown hgd (by omega) (by simp)).trans (belowK_b (w := w) (Nat.le_refl _) _ D _ _ (by omega) hdr rfl rfl)⟩
  case stop =>
    rintro D c pre W _ _ h _
    exact h.elim

theorem Scan_scn {s : ByteArray} {l : List ByteArray} {t : ByteArray} (h : Scn s l t) (hs : s.size ≤ 1000000) (w : World) : Calls Try.prog 48 #[.string s] w (RowN l ((s.size : Int) - t.size) w) := by
  obtain ⟨xs, t', hH⟩ := hands_some s.size s.size s (Nat.le_refl _)
  obtain ⟨rfl, rfl⟩ := scn_det h (hands_scn hH)
  have he : endOf xs = (s.size : Int) - t.size := by
    rcases hands_end hH with ⟨rfl, rfl⟩ | ⟨_, he⟩
    · simp [endOf]
    · exact he
  rw [← he]
  exact Scan_hands hH hs w

set_option maxRecDepth 100000 in
set_option maxHeartbeats 1000000 in
theorem All_scn {s : ByteArray} {l : List ByteArray} {t : ByteArray} (h : Scn s l t) (hs : s.size ≤ 1000000) (w : World) : Calls Try.prog 24 #[.string s] w (RowN (if t.size = 0 then l else []) (if t.size = 0 then 0 else 6) w) := by
  have HS := Lib.hid (fun W => Scan_scn h hs W)
  have hts := (scn_bytes h).2.2
  by_cases h0 : t.size = 0
  · have hn : ((s.size : Int) - t.size) = s.size := by omega
    rw [hn] at HS
    rw [if_pos h0, if_pos h0]
    clear h
    go_enter Try.func24, Try.ntmps24
    go_wp2_with (go_at_call 48; (with_reducible refine (HS.out _).mono ?_); rintro e x1 ⟨v, rfl, ho, hn, hx1⟩)
    go_ret2
    exact ⟨v, rfl, ho, hn, hx1⟩
  · rw [if_neg h0, if_neg h0]
    obtain ⟨k, hk⟩ : ∃ k : Int, (s.size : Int) - t.size = k := ⟨_, rfl⟩
    have hk1 : k < s.size := by omega
    rw [hk] at HS
    clear h
    go_enter Try.func24, Try.ntmps24
    go_wp2_with (go_at_call 48; (with_reducible refine (HS.out _).mono ?_); rintro e x1 ⟨v, rfl, ho, hn, hx1⟩)
    go_ret2
    exact ⟨_, rfl, World.ownsRow_nil _ _ _ _, by simp, hx1⟩
end Go.Proofs.Ytndakbjmahkjdaa.Frame
