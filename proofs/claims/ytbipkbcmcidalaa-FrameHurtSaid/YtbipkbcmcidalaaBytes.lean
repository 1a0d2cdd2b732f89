/-
  Contracts of Bytes of package check and of the reference's Bytes: a number's four bytes, the lowest first.
-/
import Derived.Test.YtbipkbcmcidalaaOn
import Derived.OwnWalk
import Derived.WalkSpells
import Derived.Laws.AppendOwn
import Derived.Laws.IdiomStrings
namespace Go.Proofs.Ytbipkbcmcidalaa.Crc
open Go.ChangeShapes Go.WideShapes Go.ChangeAt Go.RowKit Go.Lib

def four (c : Nat) : List UInt8 := [UInt8.ofNat (c % 256), UInt8.ofNat (c / 256 % 256), UInt8.ofNat (c / 65536 % 256), UInt8.ofNat (c / 16777216 % 256)]
def TextB (l : List UInt8) (w : World) (e : Ending) (w' : World) : Prop := e = .returned (.string ⟨l.toArray⟩) ∧ Below w.heap.size w w'

theorem four_back (c : Nat) (h : c < 4294967296) (w : World) :
    (convert 39 9 (.slice (some ⟨w.heap.size, 0, none⟩) 4 4)).run Try.prog (w.alloc (.cells #[.int .u8 ((c : Int) % 256), .int .u8 ((c : Int) / 256 % 256), .int .u8 ((c : Int) / 65536 % 256), .int .u8 ((c : Int) / 16777216)] 5)) =
      .ok (.string ⟨(four c).toArray⟩) (w.alloc (.cells #[.int .u8 ((c : Int) % 256), .int .u8 ((c : Int) / 256 % 256), .int .u8 ((c : Int) / 65536 % 256), .int .u8 ((c : Int) / 16777216)] 5)) := by
  refine run_convert_bytes_back _ 39 9 5 ⟨w.heap.size, 0, none⟩ 4 (four c) Try.underlying39 Try.underlying5 Try.underlying9 ?_
  intro j hj
  rw [Addr.add_mid, cell_of_row _ _ _ _ _ _ (heap_alloc_new _ _)]
  match j, hj with
  | 0, _ => simp [four]
  | 1, _ => simp [four]
  | 2, _ => simp [four]
  | 3, _ => simp [four]; omega

set_option maxHeartbeats 1000000 in
theorem Bytes_any (c : Nat) (h : c < 4294967296) (w : World) : Calls Try.prog 17 #[.int .u32 c] w (TextB (four c) w) := by
  have hc := four_back c h w
  go_enter Try.func17, Try.ntmps17
  go_wp2
  go_ret
  exact ⟨rfl, (Below.refl _ _).alloc (Nat.le_refl _) _⟩

theorem Try.info5 : (Try.prog.info? 5).map (fun i => (i.zero, i.size, i.bytes)) = some (some (.int .u8 0), 1, 1) := by kernel_rfl

def bcells (l : List UInt8) : List Value := l.map fun b => Value.int .u8 (b.toNat : Int)
theorem bcells_snoc (l : List UInt8) (b : UInt8) : bcells (l ++ [b]) = bcells l ++ [Value.int .u8 (b.toNat : Int)] := by simp [bcells]

/-- Cells that are owned, one more behind them: the relation of a loop that appends one byte. -/
theorem own_snoc {B : Nat} {e : TypeId} {v v' : Value} {p : List UInt8} (b : UInt8) {x : Int} (hx : x = (b.toNat : Int)) {w wr w1 : World} {o : Obj} (hB : B ≤ wr.heap.size)
    (hown : wr.ownsRow B e 1 v p.length (bcells p)) (hnx : Below B w wr)
    (hown' : w1.ownsRow B e 1 v' (p.length + 1) (bcells p ++ [.int .u8 x])) (hgrow : (wr.alloc o).grownBy w1 v.ownBlock) :
    w1.ownsRow B e 1 v' (p ++ [b]).length (bcells (p ++ [b])) ∧ Below B w w1 := by
  subst hx
  refine ⟨by rw [bcells_snoc]; simpa using hown', (hnx.alloc hB o).grown hgrow (by simp; omega) (fun j hj => (hown.lt j hj).1)⟩

/-- 'string(b)' of a row of bytes that is owned. -/
theorem own_string {P : Program} {B : Nat} {src dst e : TypeId} {v : Value} {l : List UInt8} {w : World} (hs : P.underlying src = some (.slice e)) (he : P.underlying e = some (.int .u8)) (hd : P.underlying dst = some .string)
    (hown : w.ownsRow B e 1 v l.length (bcells l)) : l ≠ [] → (convert src dst v).run P w = .ok (.string ⟨l.toArray⟩) w := by
  intro hne
  have hw := hown
  obtain ⟨_, h | ⟨g, cap, cur, rfl, _, _, _, _, _, _⟩⟩ := hown
  · exact absurd (List.length_eq_zero_iff.1 h.2) hne
  · refine run_convert_bytes_back w src dst e ⟨g, 0, none⟩ cap l hs he hd ?_
    intro j hj
    exact hw.cells rfl j _ (by simp [bcells, List.getElem?_map, List.getElem?_eq_getElem hj])

/-- So many of the number's bytes, the lowest first. -/
def low : Nat → Nat → List UInt8
  | 0, _ => []
  | k + 1, c => low k c ++ [UInt8.ofNat (c / 256 ^ k % 256)]
theorem low_len (k c : Nat) : (low k c).length = k := by
  induction k with
  | zero => rfl
  | succ k ih => simp [low, ih]
theorem low4 (c : Nat) : low 4 c = four c := by simp [low, four]

theorem made_one (x : World) (e : TypeId) : (x.alloc (.cells #[] e)).ownsRow x.heap.size e 1 (.slice (some ⟨x.heap.size, 0, none⟩) 0 0) 0 [] := by
  have h := World.ownsRow_made (base := x.heap.size) (e := e) (size := 1) x #[] 0 (Nat.le_refl _) (by decide) rfl
  simpa using h

set_option maxHeartbeats 1600000 in
set_option maxRecDepth 1000000 in
theorem refBytes_any (c : Nat) (h : c < 4294967296) (w : World) : Calls Try.prog 21 #[.int .u32 c] w (TextB (four c) w) := by
  obtain ⟨i0, hi, hz0, hz1, hz2⟩ := info_parts Try.info5
  have HM := Lib.hid (made_one w 5)
  go_enter Try.func21, Try.ntmps21
  go_wp2
  go_loopw [0, 3, 4] (fun x v i wr => ∃ k : Nat, k ≤ 4 ∧ i = .int .i64 k ∧ x = .int .u32 (c / 256 ^ k : Nat) ∧ wr.ownsRow w.heap.size 5 1 v (low k c).length (bcells (low k c)) ∧ Below w.heap.size w wr)
    (fun _ _ i _ => 4 - (intOf i).toNat)
  case atStart => exact ⟨0, by omega, rfl, by simp, HM.out, (Below.refl _ _).alloc (Nat.le_refl _) _⟩
  case round =>
    obtain ⟨k, hk, rfl, rfl, hown, hnx⟩ := hrel
    have hll := low_len k c
    have hle : (low k c).length ≤ 4 := by omega
    have hsz := hnx.size
    by_cases hlt : k < 4
    · have HN : Hid (low (k + 1) c = low k c ++ [UInt8.ofNat (c / 256 ^ k % 256)]) := rfl
      have HP : Hid (c / 256 ^ (k + 1) = c / 256 ^ k / 256) := by unfold Hid; rw [Nat.pow_succ, Nat.div_div_eq_div_mul]
      have hm : c / 256 ^ k < 4294967296 := Nat.lt_of_le_of_lt (Nat.div_le_self _ _) h
      generalize c / 256 ^ k = x at HN HP hm
      generalize low k c = p at HN hown hle
      clear hll
      go_wp2_with (at_builtin; refine wpList_append_own _ rfl _ _ 39 rfl w.heap.size 5 i0 (.int .u8 0) 1 1 Try.underlying39 hi hz0 hz1 hz2 rfl (by decide) _ _ _ rfl (hown.alloc _) ⟨wr.heap.size, 0, none⟩ 1 1 [.int .u8 ((x : Int) % 256)] rfl rfl ?c1 ?c2 ?c3 ?c4 ?c5 ?_)
      case c1 =>
        intro j y hj
        match j, hj with
        | 0, hj => simp at hj; subst hj; simp [Addr.add]
      case c2 => intro y hy; simp at hy; subst hy; rfl
      case c3 => unfold maxLen; omega
      case c4 => omega
      case c5 => simp; omega
      intro v' w1 hown' hgrow _
      have R := own_snoc (UInt8.ofNat (x % 256)) (by simp) (by omega) hown hnx hown' hgrow
      clear hown' hgrow hown
      go_wp2
      go_roundw
      case rel => exact ⟨k + 1, by omega, by go_num, by rw [HP.out]; go_num, by rw [HN.out]; exact R.1, R.2⟩
      case measure => simp [intOf]; omega
    · obtain rfl : k = 4 := by omega
      rw [low4] at hown
      have hs := own_string (dst := 9) Try.underlying39 Try.underlying5 Try.underlying9 hown (by simp [four])
      clear hll hle
      go_wp2
      go_ret
      exact ⟨rfl, hnx⟩
end Go.Proofs.Ytbipkbcmcidalaa.Crc
