/-
  Joined: JBox, JNum, JHeadOf, JMayBe.
-/
import Derived.Test.YtlpkalfbcphkmaaGreatMj
import Derived.Test.YtlpkalfbcphkmaaGreatMc
import Derived.Deep.RegionLaw
import Derived.Laws.Bits64b
import Derived.Deep.CutRange
import Derived.Deep.RegionWith
import Derived.Deep.MidRow
import Derived.Deep.WholeRow
import Derived.Laws.ResultCell
import Derived.Laws.CopyOwn
import Derived.Lib.BufferWrite

/-
  Blocks of some cells; small contracts of package journal.
-/
namespace Go.Proofs.YtlpkalfbcphkmaaGreat.Disk.Jn
open Go.ChangeShapes Go.WideShapes Go.ChangeAt Go.RowKit Go.Lib

/-- A block of some cells. -/
def Box (b : Nat) (vs : List Value) (w : World) : Prop := b < w.heap.size ∧ ∀ j v, vs[j]? = some v → w.cell? ⟨b, j, none⟩ = some v ∧ w.frozen? ⟨b, j, none⟩ = false
theorem Box.below {b : Nat} {vs : List Value} {w w' : World} (h : Box b vs w) (hb : Below w.heap.size w w') : Box b vs w' :=
  ⟨Nat.lt_of_lt_of_le h.1 hb.size, fun j v hj => ⟨(hb.cell (p := ⟨b, j, none⟩) h.1).trans (h.2 j v hj).1, (hb.frozen (p := ⟨b, j, none⟩) h.1).trans (h.2 j v hj).2⟩⟩
theorem Box.made (w : World) (vs : List Value) (T : TypeId) : Box w.heap.size vs (w.alloc (.cells vs.toArray T)) := by
  refine ⟨by simp, fun j v hj => ?_⟩
  have := (List.getElem?_eq_some_iff.1 hj).1
  constructor
  · simpa using hj
  · simp
theorem Box.one {b : Nat} {vs : List Value} {w : World} (h : Box b vs w) {i : Nat} (hi : i < vs.length) (u : Value) : Box b (vs.set i u) (w.setCell ⟨b, i, none⟩ u) := by
  refine ⟨by simpa using h.1, fun j v hj => ?_⟩
  rw [List.getElem?_set] at hj
  by_cases c : i = j
  · subst c
    rw [if_pos rfl, if_pos hi] at hj
    cases hj
    obtain ⟨h1, h2⟩ := h.2 i _ (List.getElem?_eq_getElem hi)
    exact ⟨World.cell?_setCell_same _ _ _ h1, by rw [World.frozen?_setCell]; exact h2⟩
  · rw [if_neg c] at hj
    obtain ⟨h1, h2⟩ := h.2 j v hj
    have ne : (⟨b, i, none⟩ : Addr) ≠ ⟨b, j, none⟩ := by intro e; cases e; exact c rfl
    exact ⟨by rw [World.cell?_setCell_other _ _ _ _ ne]; exact h1, by rw [World.frozen?_setCell]; exact h2⟩
theorem Box.other {b g i : Nat} {vs : List Value} {w : World} (h : Box b vs w) (hne : b ≠ g) (u : Value) : Box b vs (w.setCell ⟨g, i, none⟩ u) := by
  refine ⟨by simpa using h.1, fun j v hj => ?_⟩
  obtain ⟨h1, h2⟩ := h.2 j v hj
  have ne : (⟨g, i, none⟩ : Addr) ≠ ⟨b, j, none⟩ := by intro e; cases e; exact hne rfl
  exact ⟨by rw [World.cell?_setCell_other _ _ _ _ ne]; exact h1, by rw [World.frozen?_setCell]; exact h2⟩
theorem Box.st2 {b : Nat} {c0 c1 : Value} {w : World} (h : Box b [c0, c1] w) (u0 u1 : Value) : Box b [u0, u1] ((w.setCell ⟨b, 0, none⟩ u0).setCell ⟨b, 1, none⟩ u1) :=
  (h.one (i := 0) (by simp) u0).one (i := 1) (by simp) u1
theorem Box.st3 {b : Nat} {c0 c1 c2 : Value} {w : World} (h : Box b [c0, c1, c2] w) (u0 u1 u2 : Value) : Box b [u0, u1, u2] (((w.setCell ⟨b, 0, none⟩ u0).setCell ⟨b, 1, none⟩ u1).setCell ⟨b, 2, none⟩ u2) :=
  ((h.one (i := 0) (by simp) u0).one (i := 1) (by simp) u1).one (i := 2) (by simp) u2
theorem Box.st7 {b : Nat} {c0 c1 c2 c3 c4 c5 c6 : Value} {w : World} (h : Box b [c0, c1, c2, c3, c4, c5, c6] w) (u0 u1 u2 u3 u4 u5 u6 : Value) : Box b [u0, u1, u2, u3, u4, u5, u6]
    (((((((w.setCell ⟨b, 0, none⟩ u0).setCell ⟨b, 1, none⟩ u1).setCell ⟨b, 2, none⟩ u2).setCell ⟨b, 3, none⟩ u3).setCell ⟨b, 4, none⟩ u4).setCell ⟨b, 5, none⟩ u5).setCell ⟨b, 6, none⟩ u6) :=
  ((((((h.one (i := 0) (by simp) u0).one (i := 1) (by simp) u1).one (i := 2) (by simp) u2).one (i := 3) (by simp) u3).one (i := 4) (by simp) u4).one (i := 5) (by simp) u5).one (i := 6) (by simp) u6
theorem Box.c2 {b : Nat} {c0 c1 : Value} {w : World} (h : Box b [c0, c1] w) : w.cell? ⟨b, 0, none⟩ = some c0 ∧ w.cell? ⟨b, 1, none⟩ = some c1 := ⟨(h.2 0 _ rfl).1, (h.2 1 _ rfl).1⟩
theorem Box.f2 {b : Nat} {c0 c1 : Value} {w : World} (h : Box b [c0, c1] w) : w.frozen? ⟨b, 0, none⟩ = false ∧ w.frozen? ⟨b, 1, none⟩ = false := ⟨(h.2 0 _ rfl).2, (h.2 1 _ rfl).2⟩
theorem Box.c3 {b : Nat} {c0 c1 c2 : Value} {w : World} (h : Box b [c0, c1, c2] w) : w.cell? ⟨b, 0, none⟩ = some c0 ∧ w.cell? ⟨b, 1, none⟩ = some c1 ∧ w.cell? ⟨b, 2, none⟩ = some c2 := ⟨(h.2 0 _ rfl).1, (h.2 1 _ rfl).1, (h.2 2 _ rfl).1⟩
theorem Box.f3 {b : Nat} {c0 c1 c2 : Value} {w : World} (h : Box b [c0, c1, c2] w) : w.frozen? ⟨b, 0, none⟩ = false ∧ w.frozen? ⟨b, 1, none⟩ = false ∧ w.frozen? ⟨b, 2, none⟩ = false := ⟨(h.2 0 _ rfl).2, (h.2 1 _ rfl).2, (h.2 2 _ rfl).2⟩
theorem Box.c7 {b : Nat} {c0 c1 c2 c3 c4 c5 c6 : Value} {w : World} (h : Box b [c0, c1, c2, c3, c4, c5, c6] w) : w.cell? ⟨b, 0, none⟩ = some c0 ∧ w.cell? ⟨b, 1, none⟩ = some c1 ∧ w.cell? ⟨b, 2, none⟩ = some c2 ∧ w.cell? ⟨b, 3, none⟩ = some c3 ∧ w.cell? ⟨b, 4, none⟩ = some c4 ∧ w.cell? ⟨b, 5, none⟩ = some c5 ∧ w.cell? ⟨b, 6, none⟩ = some c6 :=
  ⟨(h.2 0 _ rfl).1, (h.2 1 _ rfl).1, (h.2 2 _ rfl).1, (h.2 3 _ rfl).1, (h.2 4 _ rfl).1, (h.2 5 _ rfl).1, (h.2 6 _ rfl).1⟩
theorem Box.f7 {b : Nat} {c0 c1 c2 c3 c4 c5 c6 : Value} {w : World} (h : Box b [c0, c1, c2, c3, c4, c5, c6] w) : w.frozen? ⟨b, 0, none⟩ = false ∧ w.frozen? ⟨b, 1, none⟩ = false ∧ w.frozen? ⟨b, 2, none⟩ = false ∧ w.frozen? ⟨b, 3, none⟩ = false ∧ w.frozen? ⟨b, 4, none⟩ = false ∧ w.frozen? ⟨b, 5, none⟩ = false ∧ w.frozen? ⟨b, 6, none⟩ = false :=
  ⟨(h.2 0 _ rfl).2, (h.2 1 _ rfl).2, (h.2 2 _ rfl).2, (h.2 3 _ rfl).2, (h.2 4 _ rfl).2, (h.2 5 _ rfl).2, (h.2 6 _ rfl).2⟩
theorem below_st {w W : World} {b : Nat} (h : Below w.heap.size w W) (hb : w.heap.size ≤ b) (i : Nat) (u : Value) : Below w.heap.size w (W.setCell ⟨b, i, none⟩ u) := h.setCell (p := ⟨b, i, none⟩) hb _
theorem below_st2 {w W : World} {b : Nat} (h : Below w.heap.size w W) (hb : w.heap.size ≤ b) (u0 u1 : Value) : Below w.heap.size w ((W.setCell ⟨b, 0, none⟩ u0).setCell ⟨b, 1, none⟩ u1) := below_st (below_st h hb _ _) hb _ _
theorem below_st3 {w W : World} {b : Nat} (h : Below w.heap.size w W) (hb : w.heap.size ≤ b) (u0 u1 u2 : Value) : Below w.heap.size w (((W.setCell ⟨b, 0, none⟩ u0).setCell ⟨b, 1, none⟩ u1).setCell ⟨b, 2, none⟩ u2) := below_st (below_st2 h hb _ _) hb _ _
theorem below_st7 {w W : World} {b : Nat} (h : Below w.heap.size w W) (hb : w.heap.size ≤ b) (u0 u1 u2 u3 u4 u5 u6 : Value) : Below w.heap.size w
    (((((((W.setCell ⟨b, 0, none⟩ u0).setCell ⟨b, 1, none⟩ u1).setCell ⟨b, 2, none⟩ u2).setCell ⟨b, 3, none⟩ u3).setCell ⟨b, 4, none⟩ u4).setCell ⟨b, 5, none⟩ u5).setCell ⟨b, 6, none⟩ u6) :=
  below_st (below_st (below_st (below_st (below_st3 h hb _ _ _) hb _ _) hb _ _) hb _ _) hb _ _

theorem below_dn (w : World) (n : Nat) : Below w.heap.size w (w.drewN n) := ⟨rfl, rfl, rfl, Nat.le_refl _, fun _ _ => rfl⟩
/-- A number is returned; nothing that lay has turned. -/
def IntB (k : Int) (w : World) (e : Ending) (w' : World) : Prop := e = .returned (.int .i64 k) ∧ Below w.heap.size w w'

theorem hs_int (n : Nat) (h : 2 ≤ n) : ((n : Int) - 2) / 2 = (hsN n : Int) := by unfold hsN; omega
set_option maxRecDepth 100000 in
theorem halfSectors_any (a : Option Addr) (n cap : Nat) (vW : Value) (w : World) (h2 : 2 ≤ n) (h : n ≤ 1000) : Calls Tryz.prog 68 #[.agg #[.slice a n cap, vW]] w (IntB (hsN n) w) := by
  have HS := Lib.hid (hs_int n h2)
  go_enter Tryz.func68, Tryz.ntmps68
  go_wp2
  go_ret
  exact ⟨ret_int HS.out, al _ _⟩
set_option maxRecDepth 100000 in
theorem room_any (a : Option Addr) (n cap : Nat) (vW : Value) (w : World) (h2 : 2 ≤ n) (h : n ≤ 1000) : Calls Tryz.prog 73 #[.agg #[.slice a n cap, vW]] w (IntB (roomN n) w) := by
  have HS := Lib.hid (fun W => halfSectors_any a n cap vW W h2 h)
  have hl : hsN n ≤ 500 := by unfold hsN; omega
  have HR : Hid (64 * (hsN n : Int) = roomN n) := by unfold Hid roomN; omega
  generalize hsN n = q at HS hl HR
  go_enter Tryz.func73, Tryz.ntmps73
  go_wp2_with fail
  refine (HS.out _).mono ?_
  rintro e x ⟨rfl, hx⟩
  have HX := Lib.hid (below_trans (al _ _) hx)
  clear hx
  go_wp2
  go_ret
  exact ⟨ret_int HR.out, HX.out⟩
set_option maxRecDepth 100000 in
theorem begin_any (a : Option Addr) (n cap : Nat) (vW : Value) (half : Nat) (w : World) (h2 : 2 ≤ n) (h : n ≤ 1000) (hh : half ≤ 1) : Calls Tryz.prog 66 #[.agg #[.slice a n cap, vW], .int .i64 half] w (IntB (begN n half) w) := by
  have HS := Lib.hid (fun W => halfSectors_any a n cap vW W h2 h)
  have hl : hsN n ≤ 500 := by unfold hsN; omega
  have HR : Hid (begN n half = 2 + half * hsN n) := rfl
  generalize begN n half = z at HR ⊢
  generalize hsN n = q at HS hl HR
  rcases (by omega : half = 0 ∨ half = 1) with rfl | rfl
  all_goals
    go_enter Tryz.func66, Tryz.ntmps66
    go_wp2_with fail
    refine (HS.out _).mono ?_
    rintro e x ⟨rfl, hx⟩
    have HX := Lib.hid (below_trans (al _ _) hx)
    clear hx
    go_wp2
    go_ret
    exact ⟨ret_int (by have := HR.out; omega), HX.out⟩
set_option maxRecDepth 100000 in
theorem place_any (h s u : Int) (n : Nat) (hs : s = n) (w : World) : Calls Tryz.prog 45 #[.agg #[.int .i64 h, .int .i64 s, .int .i64 u]] w (IntB ((n % 2 : Nat) : Int) w) := by
  subst hs
  go_enter Tryz.func45, Tryz.ntmps45
  go_wp2
  go_ret
  exact ⟨ret_int (by omega), al _ _⟩
end Go.Proofs.YtlpkalfbcphkmaaGreat.Disk.Jn

/-
  Contracts of readNumber and writeNumber (package journal): numbers as bytes, the lowest first.
-/
namespace Go.Proofs.YtlpkalfbcphkmaaGreat.Disk.Jn
open Go.ChangeShapes Go.WideShapes Go.ChangeAt Go.RowKit Go.Lib

/-- Bytes as cells. -/
def ar (l : List UInt8) : Array Value := (l.map fun x => Value.int .u8 (x.toNat : Int)).toArray
theorem ar_size (l : List UInt8) : (ar l).size = l.length := by simp [ar]
theorem ar_at (l : List UInt8) (j : Nat) : (ar l)[j]? = (l[j]?).map fun x => Value.int .u8 (x.toNat : Int) := by simp [ar]
theorem ar_one (l : List UInt8) : (ar l).all (·.oneCell') = true := by
  rw [Array.all_eq_true]
  intro i h
  simp only [ar, List.getElem_toArray, List.getElem_map]
  rfl
theorem ar_set (l : List UInt8) (i : Nat) (b : UInt8) {x : Int} (hx : x = (b.toNat : Int)) : (ar l).setIfInBounds i (.int .u8 x) = ar (l.set i b) := by
  subst hx
  simp [ar, List.map_set]
/-- Block g is an array of bytes. -/
def Row (g : Nat) (l : List UInt8) (w : World) : Prop := w.heap[g]? = some (.cells (ar l) 76 (0, 0))
theorem Row.lt {g : Nat} {l : List UInt8} {w : World} (h : Row g l w) : g < w.heap.size := (Array.getElem?_eq_some_iff.1 h).1
theorem Row.cell {g : Nat} {l : List UInt8} {w : World} (h : Row g l w) {j : Nat} (hj : j < l.length) : w.cell? ⟨g, j, none⟩ = some (.int .u8 (l[j].toNat : Int)) := by
  rw [cell_of_row w g j (ar l) _ _ h, ar_at, List.getElem?_eq_getElem hj]; rfl
theorem Row.free {g : Nat} {l : List UInt8} {w : World} (h : Row g l w) (j : Nat) : w.frozen? ⟨g, j, none⟩ = false := frozen_of_row w g j (ar l) _ h
theorem Row.below {g : Nat} {l : List UInt8} {w w' : World} (h : Row g l w) (hb : Below w.heap.size w w') : Row g l w' := (hb.block g h.lt).trans h
theorem Row.set {g : Nat} {l : List UInt8} {w : World} (h : Row g l w) (i : Nat) (b : UInt8) {x : Int} (hx : x = (b.toNat : Int)) : Row g (l.set i b) (w.setCell ⟨g, i, none⟩ (.int .u8 x)) := by
  unfold Row
  rw [heap_setCell_same w g i _ _ _ h, ar_set l i b hx]

theorem pow8 (q : Nat) : (256 : Nat) ^ q = 2 ^ (8 * q) := by rw [show (256 : Nat) = 2 ^ 8 from rfl, ← Nat.pow_mul]
theorem ofInt_wrap {x : Nat} (h : x < 18446744073709551616) : (BitVec.ofInt 64 (wrap64 (x : Int))).toNat = x := by
  rw [BitVec.toNat_ofInt]
  unfold wrap64
  omega
theorem or_i64 {m b q : Nat} (hm : m < 256 ^ q) (hb : b < 256) (hq : q ≤ 7) : bits BinOp.or IntKind.i64 (wrap64 (m : Int)) (wrap64 ((b : Int) * 2 ^ (8 * q))) = wrap64 ((m + 256 ^ q * b : Nat) : Int) := by
  have hp : (256 : Nat) ^ q ≤ 256 ^ 7 := Nat.pow_le_pow_right (by omega) hq
  have hB : 256 ^ q * b ≤ 256 ^ 7 * 255 := Nat.mul_le_mul hp (by omega)
  have e1 : (b : Int) * 2 ^ (8 * q) = ((256 ^ q * b : Nat) : Int) := by
    rw [pow8]; simp [Int.mul_comm]
  rw [e1]
  have h2 : m < 2 ^ (8 * q) := by rw [← pow8]; exact hm
  have h3 : m ||| 256 ^ q * b = m + 256 ^ q * b := by
    rw [Nat.or_comm, pow8, ← Nat.two_pow_add_eq_or_of_lt h2, Nat.add_comm]
  show IntKind.i64.wrap ((BitVec.ofInt 64 _ ||| BitVec.ofInt 64 _).toNat : Int) = _
  rw [BitVec.toNat_or, ofInt_wrap (by omega), ofInt_wrap (by omega), h3, IntKind.wrap_i64]
  unfold wrap64
  omega
/-- k bytes from place o on. -/
def cut (l : List UInt8) (o k : Nat) : List UInt8 := (l.drop o).take k
theorem cut_len {l : List UInt8} {o k : Nat} (h : o + k ≤ l.length) : (cut l o k).length = k := by unfold cut; rw [List.length_take, List.length_drop]; omega
theorem cut_succ {l : List UInt8} {o q : Nat} (h : o + q < l.length) : cut l o (q + 1) = cut l o q ++ [l[o + q]] := by
  unfold cut
  rw [List.take_succ_eq_append_getElem (by rw [List.length_drop]; omega)]
  simp
theorem num_cut_succ {l : List UInt8} {o q : Nat} (h : o + q < l.length) : num (cut l o (q + 1)) = num (cut l o q) + 256 ^ q * l[o + q].toNat := by
  rw [cut_succ h, num_snoc, cut_len (by omega)]

set_option maxRecDepth 100000 in
theorem readNumber_any {g o k cap : Nat} {l : List UInt8} {w : World} (h : Row g l w) (hk : k ≤ 8) (hl : o + k ≤ l.length) : Calls Tryz.prog 102 #[.slice (some ⟨g, o, none⟩) k cap] w fun e w' => e = .returned (.int .i64 (wrap64 (num (cut l o k) : Nat))) ∧ w = w' := by
  have H := Lib.hid h
  go_enter Tryz.func102, Tryz.ntmps102
  go_wp2
  go_loop [3, 8] (fun s i => ∃ (q : Nat) (n : Int), q ≤ k ∧ i = .int .i64 q ∧ s = .int .i64 n ∧ n = wrap64 (num (cut l o q) : Nat)) (fun _ i => k - (RowKit.intOf i).toNat)
  case atStart => exact ⟨0, 0, Nat.zero_le _, rfl, rfl, by simp [cut, num, wrap64]⟩
  case round =>
    obtain ⟨q, n, hq, rfl, rfl, hn⟩ := hrel
    have HN := Lib.hid hn
    clear hn
    by_cases hlt : q < k
    · have hc := H.out.cell (j := o + q) (by omega)
      have HS := Lib.hid (num_cut_succ (l := l) (o := o) (q := q) (by omega))
      have HL : Hid (num (cut l o q) < 256 ^ q) := by
        have := num_lt (cut l o q)
        rwa [cut_len (by omega)] at this
      have hb := l[o + q].toNat_lt
      generalize l[o + q] = b at hc hb HS
      have hb0 : (0 : Int) ≤ (b.toNat : Int) := by omega
      have hb1 : (b.toNat : Int) < 256 := by omega
      go_wp2
      go_round
      case rel => exact ⟨q + 1, _, by omega, by go_num, rfl, by rw [HN.out, HS.out]; exact or_i64 HL.out (by omega) (by omega)⟩
      case measure => simp [RowKit.intOf]; omega
    · obtain rfl : q = k := by omega
      go_wp2
      go_ret
      exact ⟨ret_int HN.out, rfl⟩
/-- k bytes over those from place o on. -/
def lay (l : List UInt8) (o : Nat) : List UInt8 → List UInt8
  | [] => l
  | b :: r => lay (l.set o b) (o + 1) r
theorem lay_len (o : Nat) (bs : List UInt8) : ∀ l : List UInt8, (lay l o bs).length = l.length := by
  induction bs generalizing o with
  | nil => intro l; rfl
  | cons b r ih => intro l; rw [lay, ih]; simp
theorem lay_snoc (bs : List UInt8) (b : UInt8) : ∀ (o : Nat) (l : List UInt8), lay l o (bs ++ [b]) = (lay l o bs).set (o + bs.length) b := by
  induction bs with
  | nil => intro o l; rfl
  | cons c r ih => intro o l; rw [List.cons_append, lay, lay, ih, List.length_cons]; congr 1; omega
/-- Bytes of a row turned, nothing else below. -/
def RowB (g : Nat) (l : List UInt8) (w : World) (e : Ending) (w' : World) : Prop := e = .returned (.tuple #[]) ∧ Row g l w' ∧ Below g w w'
theorem low_succ (n k : Nat) : low n (k + 1) = low n k ++ [UInt8.ofNat (n / 256 ^ k)] := by
  induction k generalizing n with
  | zero => simp [low]
  | succ k ih => rw [low, ih, low, Nat.div_div_eq_div_mul, Nat.pow_succ, Nat.mul_comm 256]; rfl

set_option maxRecDepth 100000 in
theorem writeNumber_any {g o k cap : Nat} {l : List UInt8} {w : World} (h : Row g l w) (n : Nat) (_hn : n < 9223372036854775808) (hk : k ≤ 8) (hl : o + k ≤ l.length) : Calls Tryz.prog 76 #[.slice (some ⟨g, o, none⟩) k cap, .int .i64 n] w (RowB g (lay l o (low n k)) w) := by
  have H := Lib.hid h
  go_enter Tryz.func76, Tryz.ntmps76
  go_wp2
  go_loopw [7] (fun i wr => ∃ (q : Nat), q ≤ k ∧ i = .int .i64 q ∧ Row g (lay l o (low n q)) wr ∧ Below g w wr) (fun i _ => k - (RowKit.intOf i).toNat)
  case atStart => exact ⟨0, Nat.zero_le _, rfl, H.out, Below.refl _ _⟩
  case round =>
    obtain ⟨q, hq, rfl, hrow, hbe⟩ := hrel
    have HR := Lib.hid hrow
    have HB := Lib.hid hbe
    clear hrow hbe
    by_cases hlt : q < k
    · have hc := HR.out.cell (j := o + q) (by rw [lay_len]; omega)
      have hf := HR.out.free (o + q)
      have HX : Hid (Row g (lay l o (low n (q + 1))) (wr.setCell ⟨g, o + q, none⟩ (.int .u8 ((n : Int) / 2 ^ (8 * q) % 256)))) := by
        have := HR.out.set (o + q) (UInt8.ofNat (n / 256 ^ q)) (x := (n : Int) / 2 ^ (8 * q) % 256) (by
          rw [show ((n : Int) / 2 ^ (8 * q) % 256) = ((n / 2 ^ (8 * q) % 256 : Nat) : Int) by simp, pow8]
          simp)
        rw [low_succ, lay_snoc, low_len]
        exact this
      generalize (lay l o (low n q))[o + q]'(by rw [lay_len]; omega) = b at hc
      go_wp2
      go_roundw
      case rel => exact ⟨q + 1, by omega, by go_num, HX.out, HB.out.setCell (p := ⟨g, o + q, none⟩) (Nat.le_refl _) _⟩
      case measure => simp [RowKit.intOf]; omega
    · obtain rfl : q = k := by omega
      go_wp2
      exact bodyPost_ret (v := .tuple #[]) (by simp [results, Tryz.results76, go_sem]) rfl ⟨rfl, HR.out, HB.out⟩
end Go.Proofs.YtlpkalfbcphkmaaGreat.Disk.Jn

/-
  Contracts of a head's own functions (package journal): its bytes as they are told, what bytes tell.
-/
namespace Go.Proofs.YtlpkalfbcphkmaaGreat.Disk.Jn
open Go.ChangeShapes Go.WideShapes Go.ChangeAt Go.RowKit Go.Lib

theorem infoHead : (Tryz.prog.info? 76).map (fun i => (i.zero, i.size)) = some (some (.agg (Array.replicate 64 (.int .u8 0))), 64) := by kernel_rfl
theorem infoByte1 : (Tryz.prog.info? 5).map (·.size) = some 1 := by kernel_rfl
theorem ar_zero : ar (List.replicate 64 0) = Array.replicate 64 (.int .u8 0) := by simp only [ar, List.map_replicate]; rfl
/-- Bytes over others. -/
def spl (l : List UInt8) (o : Nat) (bs : List UInt8) : List UInt8 := l.take o ++ bs ++ l.drop (o + bs.length)
theorem ar_spl (l : List UInt8) (o : Nat) (bs : List UInt8) : ((ar l).toList.take o ++ (bs.map fun x => Value.int .u8 (x.toNat : Int)) ++ (ar l).toList.drop (o + bs.length)).toArray = ar (spl l o bs) := by
  simp [ar, spl, List.map_take, List.map_drop]
theorem Row.copied {g : Nat} {l : List UInt8} {w : World} (h : Row g l w) (o : Nat) (bs : List UInt8) : Row g (spl l o bs) (w.setRow g ((ar l).toList.take o ++ (bs.map fun x => Value.int .u8 (x.toNat : Int)) ++ (ar l).toList.drop (o + bs.length)).toArray) := by
  unfold Row
  rw [setRow_heap w g _ _ _ _ h, ar_spl]
theorem Row.made (w : World) (l : List UInt8) : Row w.heap.size l (w.alloc (.cells (ar l) 76)) := heap_alloc_new w _
theorem Row.other {g : Nat} {l : List UInt8} {w : World} (h : Row g l w) {a : Addr} (hne : g ≠ a.block) (v : Value) : Row g l (w.setCell a v) := by
  unfold Row
  rw [heap_setCell_other w a g v hne]; exact h

theorem Box.keep {b B : Nat} {vs : List Value} {w w' : World} (h : Box b vs w) (hb : Below B w w') (hlt : b < B) : Box b vs w' :=
  ⟨Nat.lt_of_lt_of_le h.1 hb.size, fun j v hj => ⟨(hb.cell (p := ⟨b, j, none⟩) hlt).trans (h.2 j v hj).1, (hb.frozen (p := ⟨b, j, none⟩) hlt).trans (h.2 j v hj).2⟩⟩
theorem Row.keep {g B : Nat} {l : List UInt8} {w w' : World} (h : Row g l w) (hb : Below B w w') (hlt : g < B) : Row g l w' := (hb.block g hlt).trans h
/-- headOf's blocks: what is told, the result, the array. -/
def HSt (w : World) (vs : List Value) (l0 l : List UInt8) (W : World) : Prop := Below w.heap.size w W ∧ Box w.heap.size vs W ∧ Row (w.heap.size + 1) l0 W ∧ Row (w.heap.size + 1 + 1) l W
theorem HSt.next {w W W' : World} {vs : List Value} {l0 l l' : List UInt8} (h : HSt w vs l0 l W) (hr : Row (w.heap.size + 1 + 1) l' W') (hb : Below (w.heap.size + 1 + 1) W W') : HSt w vs l0 l' W' :=
  ⟨h.1.trans (hb.mono (by omega)), h.2.1.keep hb (by omega), h.2.2.1.keep hb (by omega), hr⟩

/-- An array of bytes is returned. -/
def HeadB (l : List UInt8) (w : World) (e : Ending) (w' : World) : Prop := e = .returned (.agg (ar l)) ∧ Below w.heap.size w w'

theorem name_list : (⟨#[116, 97, 114, 114, 121]⟩ : ByteArray).data.toList = [116, 97, 114, 114, 121] := rfl
theorem head_steps' (h a0 a1 a2 a3 a4 a5 a6 a7 b0 b1 b2 b3 : UInt8) :
    spl (lay (lay ((spl (List.replicate 64 0) 0 [116, 97, 114, 114, 121]).set 5 h) 6 [a0, a1, a2, a3, a4, a5, a6, a7]) 14 [b0, b1, b2, b3]) 32 ((lay (lay ((spl (List.replicate 64 0) 0 [116, 97, 114, 114, 121]).set 5 h) 6 [a0, a1, a2, a3, a4, a5, a6, a7]) 14 [b0, b1, b2, b3]).take 32) =
    ([116, 97, 114, 114, 121] ++ (h :: ([a0, a1, a2, a3, a4, a5, a6, a7] ++ ([b0, b1, b2, b3] ++ List.replicate 14 0)))) ++ ([116, 97, 114, 114, 121] ++ (h :: ([a0, a1, a2, a3, a4, a5, a6, a7] ++ ([b0, b1, b2, b3] ++ List.replicate 14 0)))) := by kernel_rfl
theorem head_steps (t : Told) : spl (lay (lay ((spl (List.replicate 64 0) 0 [116, 97, 114, 114, 121]).set 5 (UInt8.ofNat t.half)) 6 (low t.seals 8)) 14 (low t.used 4)) 32 ((lay (lay ((spl (List.replicate 64 0) 0 [116, 97, 114, 114, 121]).set 5 (UInt8.ofNat t.half)) 6 (low t.seals 8)) 14 (low t.used 4)).take 32) = headL t := by
  have e8 : ∀ n, low n 8 = [UInt8.ofNat n, UInt8.ofNat (n / 256), UInt8.ofNat (n / 256 / 256), UInt8.ofNat (n / 256 / 256 / 256), UInt8.ofNat (n / 256 / 256 / 256 / 256), UInt8.ofNat (n / 256 / 256 / 256 / 256 / 256), UInt8.ofNat (n / 256 / 256 / 256 / 256 / 256 / 256), UInt8.ofNat (n / 256 / 256 / 256 / 256 / 256 / 256 / 256)] := fun n => rfl
  have e4 : ∀ n, low n 4 = [UInt8.ofNat n, UInt8.ofNat (n / 256), UInt8.ofNat (n / 256 / 256), UInt8.ofNat (n / 256 / 256 / 256)] := fun n => rfl
  unfold headL halfL
  rw [e8, e4]
  exact head_steps' _ _ _ _ _ _ _ _ _ _ _ _ _

set_option maxHeartbeats 1000000 in
set_option maxRecDepth 100000 in
theorem headOf_any (t : Told) (h1 : t.half ≤ 1) (h2 : t.seals < 9223372036854775808) (h3 : t.used < 9223372036854775808) (w : World) : Calls Tryz.prog 43 #[.agg #[.int .i64 t.half, .int .i64 t.seals, .int .i64 t.used]] w (HeadB (headL t) w) := by
  obtain ⟨hz, hi⟩ := zero_of_info infoHead
  have HI := Lib.hid hi
  clear hi
  go_enter Tryz.func43, Tryz.ntmps43
  go_upto_region 2 with (fail)
  rw [← ar_zero]
  clear hz
  have h0 : Below w.heap.size w (((w.alloc (.cells #[.int .i64 t.half, .int .i64 t.seals, .int .i64 t.used] 63)).alloc (.cells (ar (List.replicate 64 0)) 76)).alloc (.cells (ar (List.replicate 64 0)) 76)) := below_trans (below_trans (al _ _) (al _ _)) (al _ _)
  have h1' := Box.made w [.int .i64 t.half, .int .i64 t.seals, .int .i64 t.used] 63
  have h2' := Row.made (w.alloc (.cells #[.int .i64 t.half, .int .i64 t.seals, .int .i64 t.used] 63)) (List.replicate 64 0)
  have h3' := Row.made ((w.alloc (.cells #[.int .i64 t.half, .int .i64 t.seals, .int .i64 t.used] 63)).alloc (.cells (ar (List.replicate 64 0)) 76)) (List.replicate 64 0)
  have h1'' := (Box.below h1' (al _ (.cells (ar (List.replicate 64 0)) 76))).below (al _ (.cells (ar (List.replicate 64 0)) 76))
  have h2'' := h2'.below (al _ (.cells (ar (List.replicate 64 0)) 76))
  simp only [World.size_alloc] at h2'' h3'
  have HA : Hid (HSt w [.int .i64 t.half, .int .i64 t.seals, .int .i64 t.used] (List.replicate 64 0) (List.replicate 64 0) _) := ⟨h0, h1'', h2'', h3'⟩
  clear h0 h1' h2' h3' h1'' h2''
  generalize (((w.alloc (.cells #[.int .i64 t.half, .int .i64 t.seals, .int .i64 t.used] 63)).alloc (.cells (ar (List.replicate 64 0)) 76)).alloc (.cells (ar (List.replicate 64 0)) 76)) = W at HA ⊢
  have hcp := run_copy_row_string (P := Tryz.prog) W 41 9 3 5 (w.heap.size + 1 + 1) 0 64 64 ⟨#[116, 97, 114, 114, 121]⟩ (ar (List.replicate 64 0)) 76 Tryz.underlying41 infoByte1 HA.out.2.2.2 (by decide) (by rw [ar_size]; decide)
  have HS := Lib.hid (head_steps t)
  have HS0 : Hid ((spl (List.replicate 64 0) 0 [116, 97, 114, 114, 121]).length = 64) := rfl
  have HR1 := Lib.hid (HA.out.next (HA.out.2.2.2.copied 0 [116, 97, 114, 114, 121]) (below_setRow (Below.refl _ _) (Nat.le_refl _) _))
  change Hid (HSt w _ _ _ (W.setRow (w.heap.size + 1 + 1) ((ar (List.replicate 64 0)).toList.take 0 ++ byteCells (⟨#[116, 97, 114, 114, 121]⟩ : ByteArray).data.toList ++ (ar (List.replicate 64 0)).toList.drop (0 + (⟨#[116, 97, 114, 114, 121]⟩ : ByteArray).size)).toArray)) at HR1
  generalize (W.setRow (w.heap.size + 1 + 1) ((ar (List.replicate 64 0)).toList.take 0 ++ byteCells (⟨#[116, 97, 114, 114, 121]⟩ : ByteArray).data.toList ++ (ar (List.replicate 64 0)).toList.drop (0 + (⟨#[116, 97, 114, 114, 121]⟩ : ByteArray).size)).toArray) = W1 at hcp HR1
  generalize spl (List.replicate 64 0) 0 [116, 97, 114, 114, 121] = l1 at HS HS0 HR1
  go_upto_region 3 with (refine Lib.wpList_copy_run _ rfl _ _ 41 9 rfl _ _ rfl rfl hcp ?_)
  clear hcp
  obtain ⟨c0, c1, c2⟩ := HR1.out.2.1.c3
  have cR := HR1.out.2.2.2.cell (j := 5) (by rw [HS0.out]; decide)
  have fR := HR1.out.2.2.2.free 5
  go_upto_region 4 with (fail)
  have HR2 := Lib.hid (HR1.out.next (HR1.out.2.2.2.set 5 (UInt8.ofNat t.half) (x := (t.half : Int)) (by simp; omega)) ((Below.refl _ _).setCell (p := ⟨w.heap.size + 1 + 1, 5, none⟩) (Nat.le_refl _) _))
  generalize (W1.setCell ⟨w.heap.size + 1 + 1, 5, none⟩ (.int .u8 (t.half : Int))) = W2 at HR2 ⊢
  have HS2 : Hid ((l1.set 5 (UInt8.ofNat t.half)).length = 64) := by unfold Hid; rw [List.length_set]; exact HS0.out
  clear c0 c1 c2 cR fR HR1
  generalize l1.set 5 (UInt8.ofNat t.half) = l2 at HS HS2 HR2
  have HW1 := Lib.hid (fun W (h : Row (w.heap.size + 1 + 1) l2 W) => writeNumber_any (o := 6) (k := 8) (cap := 58) h t.seals h2 (by omega) (by rw [HS2.out]; omega))
  have HR2d : Hid (Row (w.heap.size + 1 + 1) l2 W2.drew) := HR2.out.2.2.2
  obtain ⟨c0, c1, c2⟩ := HR2.out.2.1.c3
  go_region_with (go_at_call 76; (with_reducible refine (HW1.out _ HR2d.out).mono ?_); rintro e x ⟨rfl, hx, hbx⟩; have HX := Lib.hid hx; have HBX := Lib.hid hbx; clear hx hbx)
  have HR3 := Lib.hid (HR2.out.next HX.out (Below.trans ((Below.refl _ _).drew) HBX.out))
  have HS3 : Hid ((lay l2 6 (low t.seals 8)).length = 64) := by unfold Hid; rw [lay_len]; exact HS2.out
  clear c0 c1 c2 HR2 HR2d HW1 HX HBX
  generalize lay l2 6 (low t.seals 8) = l3 at HS HS3 HR3
  have HW2 := Lib.hid (fun W (h : Row (w.heap.size + 1 + 1) l3 W) => writeNumber_any (o := 14) (k := 4) (cap := 50) h t.used h3 (by omega) (by rw [HS3.out]; omega))
  have HR3d : Hid (Row (w.heap.size + 1 + 1) l3 x.drew) := HR3.out.2.2.2
  obtain ⟨c0, c1, c2⟩ := HR3.out.2.1.c3
  go_wp2_with fail
  go_region_with (go_at_call 76; (with_reducible refine (HW2.out _ HR3d.out).mono ?_); rintro e y ⟨rfl, hx, hbx⟩; have HX := Lib.hid hx; have HBX := Lib.hid hbx; clear hx hbx)
  have HR4 := Lib.hid (HR3.out.next HX.out (Below.trans ((Below.refl _ _).drew) HBX.out))
  have HS4 : Hid ((lay l3 14 (low t.used 4)).length = 64) := by unfold Hid; rw [lay_len]; exact HS3.out
  clear c0 c1 c2 HR3 HR3d HW2 HX HBX
  generalize lay l3 14 (low t.used 4) = l4 at HS HS4 HR4
  have HR4d : Hid (HSt w [.int .i64 t.half, .int .i64 t.seals, .int .i64 t.used] (List.replicate 64 0) l4 y.drew) := HR4.out.next HR4.out.2.2.2 ((Below.refl _ _).drew)
  have hcp := run_copy_row (P := Tryz.prog) y.drew 41 41 3 5 (w.heap.size + 1 + 1) 32 32 32 ⟨w.heap.size + 1 + 1, 0, none⟩ 32 64 (ar l4) 76 ((l4.take 32).map fun x => Value.int .u8 (x.toNat : Int)) Tryz.underlying41 infoByte1 HR4d.out.2.2.2 (by simp [HS4.out])
    (by
      intro j v hj
      rw [addr_at, cell_of_row _ _ _ _ _ _ HR4d.out.2.2.2, ar_at]
      rw [List.getElem?_map, List.getElem?_take] at hj
      split at hj
      · exact hj
      · cases hj) (by rw [ar_size, List.length_map, List.length_take, HS4.out]; decide) (by intro v hv; obtain ⟨b, _, rfl⟩ := List.mem_map.1 hv; rfl)
  have HR5 := Lib.hid (HR4d.out.next (HR4d.out.2.2.2.copied 32 (l4.take 32)) (below_setRow (Below.refl _ _) (Nat.le_refl _) _))
  rw [List.length_map] at hcp
  go_wp2_with fail
  generalize (y.drew.setRow (w.heap.size + 1 + 1) ((ar l4).toList.take 32 ++ ((l4.take 32).map fun x => Value.int .u8 (x.toNat : Int)) ++ (ar l4).toList.drop (32 + (l4.take 32).length)).toArray) = W5 at hcp HR5
  rw [HS.out] at HR5
  clear HR4 HR4d
  go_region
  have HL : Hid (Option.map (fun x => x.size) (Tryz.prog.info? 76) = some (ar (headL t)).size) := by unfold Hid; rw [ar_size, headL_len]; exact HI.out
  have HL0 : Hid ((ar (headL t)).size = (ar (List.replicate 64 0)).size) := by unfold Hid; rw [ar_size, ar_size, headL_len]; rfl
  have hone := ar_one (headL t)
  have HFIN := Lib.hid (setRow_heap _ _ _ (ar (headL t)) _ _ HR5.out.2.2.1)
  have HEND := Lib.hid (below_setRow HR5.out.1 (by omega : w.heap.size ≤ w.heap.size + 1) (ar (headL t)))
  clear hcp HS HS4
  have HLD : Hid (W5.heap[w.heap.size + 1 + 1]? = some (.cells (ar (headL t)) 76 (0, 0))) := HR5.out.2.2.2
  have HST : Hid (W5.heap[w.heap.size + 1]? = some (.cells (ar (List.replicate 64 0)) 76 (0, 0))) := HR5.out.2.2.1
  clear HR5 HA
  generalize ar (List.replicate 64 0) = z at HL0 HLD HST
  generalize hAe : ar (headL t) = A at HL HL0 hone HFIN HEND HLD
  have HEQ := Lib.hid hAe
  clear hAe
  go_wp2_with (first
    | (refine wpList_load_row rfl 76 _ rfl (w.heap.size + 1 + 1) rfl 76 A (0, 0) _ HLD.out Tryz.underlying76 rfl HL.out ?_)
    | (refine wpList_store_row rfl 76 _ _ rfl (w.heap.size + 1) A rfl rfl 76 z HST.out HL.out HL0.out.symm hone ?_))
  exact bodyPost_ret (v := .agg A) (results_cell_row rfl _ _ (w.heap.size + 1) 76 A (0, 0) _ rfl HFIN.out Tryz.underlying76 rfl HL.out) rfl ⟨by rw [HEQ.out], HEND.out⟩

set_option maxHeartbeats 1000000 in
set_option maxRecDepth 100000 in
theorem text_any (l : List UInt8) (hl : l.length = 64) (w : World) : Calls Tryz.prog 44 #[.agg (ar l)] w (TextB ⟨l.toArray⟩ w) := by
  have hback := run_convert_bytes_back (P := Tryz.prog) (w.alloc (.cells (ar l) 76)) 41 9 5 ⟨w.heap.size, 0, none⟩ 64 l Tryz.underlying41 Tryz.underlying5 Tryz.underlying9 (by
    intro j hj
    rw [addr_at]
    exact (Row.made w l).cell hj)
  rw [hl] at hback
  generalize ar l = A at hback
  go_enter Tryz.func44, Tryz.ntmps44
  go_wp2
  go_ret
  exact ⟨rfl, al _ _⟩
/-- What 64 bytes tell, a head's or not. -/
def tellN (l : List UInt8) : Int × Int × Int := (((l.getD 5 0).toNat : Int), wrap64 (num (cut l 6 8) : Nat), wrap64 (num (cut l 14 4) : Nat))
def ToldB (x : Int × Int × Int) (w : World) (e : Ending) (w' : World) : Prop := e = .returned (.agg #[.int .i64 x.1, .int .i64 x.2.1, .int .i64 x.2.2]) ∧ Below w.heap.size w w'
set_option maxHeartbeats 1000000 in
set_option maxRecDepth 100000 in
theorem tells_any (l : List UInt8) (hl : l.length = 64) (w : World) : Calls Tryz.prog 86 #[.agg (ar l)] w (ToldB (tellN l) w) := by
  have hrow := (Row.made w l).below (al _ (.cells #[.int .i64 0, .int .i64 0, .int .i64 0] 63))
  have hbox := Box.made (w.alloc (.cells (ar l) 76)) [.int .i64 0, .int .i64 0, .int .i64 0] 63
  simp only [World.size_alloc] at hbox
  have hbe : Below w.heap.size w ((w.alloc (.cells (ar l) 76)).alloc (.cells #[.int .i64 0, .int .i64 0, .int .i64 0] 63)) := below_trans (al _ _) (al _ _)
  have HR := Lib.hid hrow
  have HX := Lib.hid hbox
  have HB := Lib.hid hbe
  clear hrow hbox hbe
  obtain ⟨x5, hx5⟩ : ∃ x, l.getD 5 0 = x := ⟨_, rfl⟩
  obtain ⟨n1, hn1⟩ : ∃ n, wrap64 (num (cut l 6 8) : Nat) = n := ⟨_, rfl⟩
  obtain ⟨n2, hn2⟩ : ∃ n, wrap64 (num (cut l 14 4) : Nat) = n := ⟨_, rfl⟩
  have ht : tellN l = ((x5.toNat : Int), n1, n2) := by unfold tellN; rw [hx5, hn1, hn2]
  have HC1 := Lib.hid (fun (W : World) (h : Row w.heap.size l W) => hn1 ▸ readNumber_any (o := 6) (k := 8) (cap := 58) h (by omega) (by omega))
  have HC2 := Lib.hid (fun (W : World) (h : Row w.heap.size l W) => hn2 ▸ readNumber_any (o := 14) (k := 4) (cap := 50) h (by omega) (by omega))
  have hc5 : ∀ W, Row w.heap.size l W → W.cell? ⟨w.heap.size, 5, none⟩ = some (.int .u8 (x5.toNat : Int)) := fun W h => by
    rw [h.cell (by omega), ← hx5, List.getD, List.getElem?_eq_getElem (by omega)]; rfl
  have HC5 := Lib.hid hc5
  rw [ht]
  clear hc5 ht hx5 hn1 hn2
  go_enter Tryz.func86, Tryz.ntmps86
  go_upto_region 1 with (fail)
  generalize (w.alloc (.cells (ar l) 76)).alloc (.cells #[.int .i64 0, .int .i64 0, .int .i64 0] 63) = W at HR HX HB ⊢
  generalize ar l = A
  have c5 := HC5.out _ HR.out
  have hb5 := x5.toNat_lt
  have hw5 : IntKind.i64.wrap (x5.toNat : Int) = x5.toNat := IntWalk.i64_in _ (by omega)
  have HZ := Lib.hid (HX.out.st3 (.int .i64 (x5.toNat : Int)) (.int .i64 n1) (.int .i64 n2)).c3
  have HRd : Hid (Row w.heap.size l W.drew) := HR.out
  obtain ⟨c0, c1, c2⟩ := HX.out.c3
  obtain ⟨f0, f1, f2⟩ := HX.out.f3
  go_region_with ((first
    | (go_at_call 102; (with_reducible refine (HC1.out _ HRd.out).mono ?_); rintro e x ⟨rfl, rfl⟩)
    | (go_at_call 102; (with_reducible refine (HC2.out _ HRd.out).mono ?_); rintro e x ⟨rfl, rfl⟩)))
  all_goals go_wp2_with fail
  all_goals
    obtain ⟨z0, z1, z2⟩ := HZ.out
    exact bodyPost_ret (v := .agg #[.int .i64 (x5.toNat : Int), .int .i64 n1, .int .i64 n2]) (by simp [results, Tryz.results86, go_sem, z0, z1, z2]) rfl ⟨rfl, (below_st3 HB.out (by omega) _ _ _).drew⟩
end Go.Proofs.YtlpkalfbcphkmaaGreat.Disk.Jn

/-
  Contracts of mayBe, headAt and newest (package journal): which sector is a head, and which is the newest.
-/
namespace Go.Proofs.YtlpkalfbcphkmaaGreat.Disk.Jn
open Go.ChangeShapes Go.WideShapes Go.ChangeAt Go.RowKit Go.Lib

theorem cells3 (w : World) (h s u : Int) (vS vW : Value) :
    Box w.heap.size [.int .i64 h, .int .i64 s, .int .i64 u] ((w.alloc (.cells #[.int .i64 h, .int .i64 s, .int .i64 u] 63)).alloc (.cells #[vS, vW] 25)) ∧
    Box (w.heap.size + 1) [vS, vW] ((w.alloc (.cells #[.int .i64 h, .int .i64 s, .int .i64 u] 63)).alloc (.cells #[vS, vW] 25)) ∧
    Below w.heap.size w ((w.alloc (.cells #[.int .i64 h, .int .i64 s, .int .i64 u] 63)).alloc (.cells #[vS, vW] 25)) := by
  have h1 := Box.made (w.alloc (.cells #[.int .i64 h, .int .i64 s, .int .i64 u] 63)) [vS, vW] 25
  simp only [World.size_alloc] at h1
  exact ⟨(Box.made w [.int .i64 h, .int .i64 s, .int .i64 u] 63).below (al _ _), h1, below_trans (al _ _) (al _ _)⟩
set_option maxHeartbeats 1000000 in
set_option maxRecDepth 100000 in
theorem mayBe_any (a : Option Addr) (n cap : Nat) (vW : Value) (h s u : Int) (w : World) (h2 : 2 ≤ n) (hn : n ≤ 1000) :
    Calls Tryz.prog 87 #[.agg #[.int .i64 h, .int .i64 s, .int .i64 u], .agg #[.slice a n cap, vW]] w (BoolB (decide (h ≤ 1) && decide (1 ≤ s) && decide (s ≤ 1099511627776) && decide (u ≤ roomN n)) w) := by
  have HA := Lib.hid (cells3 w h s u (.slice a n cap) vW)
  have HRM := Lib.hid (fun W => room_any a n cap vW W h2 hn)
  obtain ⟨b, hb⟩ : ∃ b : Bool, (decide (h ≤ 1) && decide (1 ≤ s) && decide (s ≤ 1099511627776) && decide (u ≤ roomN n)) = b := ⟨_, rfl⟩
  have HBB := Lib.hid hb
  rw [hb]
  clear hb
  go_enter Tryz.func87, Tryz.ntmps87
  go_upto_region 1 with (fail)
  generalize ((w.alloc (.cells #[.int .i64 h, .int .i64 s, .int .i64 u] 63)).alloc (.cells #[.slice a n cap, vW] 25)) = W at HA ⊢
  obtain ⟨c0, c1, c2⟩ := HA.out.1.c3
  obtain ⟨d0, d1⟩ := HA.out.2.1.c2
  by_cases g1 : h ≤ 1
  case neg =>
    have e1 : decide (h ≤ 1) = false := by simpa using g1
    go_quiet (fail)
    go_wp2_with fail
    go_ret
    exact ⟨ret_bool (by rw [← HBB.out, e1]; simp), below_trans HA.out.2.2 (below_dn _ _)⟩
  have e1 : decide (h ≤ 1) = true := by simpa using g1
  by_cases g2 : 1 ≤ s
  case neg =>
    have e2 : decide (1 ≤ s) = false := by simpa using g2
    go_quiet (fail)
    go_wp2_with fail
    go_ret
    exact ⟨ret_bool (by rw [← HBB.out, e2]; simp), below_trans HA.out.2.2 (below_dn _ _)⟩
  have e2 : decide (1 ≤ s) = true := by simpa using g2
  by_cases g3 : s ≤ 1099511627776
  case neg =>
    have e3 : decide (s ≤ 1099511627776) = false := by simpa using g3
    go_quiet (fail)
    go_wp2_with fail
    go_ret
    exact ⟨ret_bool (by rw [← HBB.out, e3]; simp), below_trans HA.out.2.2 (below_dn _ _)⟩
  have e3 : decide (s ≤ 1099511627776) = true := by simpa using g3
  have HE : Hid (b = decide (u ≤ roomN n)) := by unfold Hid; rw [← HBB.out, e1, e2, e3]; simp
  go_region_held3 (fun w' => w'.cell? ⟨w.heap.size, 0, none⟩ = some (.int .i64 h) ∧ w'.cell? ⟨w.heap.size, 1, none⟩ = some (.int .i64 s) ∧ w'.cell? ⟨w.heap.size, 2, none⟩ = some (.int .i64 u) ∧ w'.cell? ⟨w.heap.size + 1, 0, none⟩ = some (.slice a n cap) ∧ w'.cell? ⟨w.heap.size + 1, 1, none⟩ = some vW)
    (first | exact ⟨c0, c1, c2, d0, d1⟩ | exact ⟨x0, x1, x2, y0, y1⟩ | fail)
    (first | (go_at_call 73; (with_reducible refine (HRM.out _).mono ?_); rintro e x ⟨rfl, hx⟩; have HX := Lib.hid (below_trans ((Below.refl _ _).drew) hx); obtain ⟨x0, x1, x2⟩ := (HA.out.1.below HX.out).c3; obtain ⟨y0, y1⟩ := (HA.out.2.1.below HX.out).c2; clear hx) | fail)
  go_wp2_with fail
  go_ret
  exact ⟨ret_bool HE.out.symm, below_trans HA.out.2.2 HX.out⟩
end Go.Proofs.YtlpkalfbcphkmaaGreat.Disk.Jn
