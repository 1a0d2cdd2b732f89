/-
  Plain mathematics of numbers' bytes: the digits of a natural number to the base 128, the lowest first; what they are read as. Nothing of the program.
-/
import Derived.Below
import Derived.Laws.AppendOwn
import Derived.Laws.IdiomStrings
import Derived.Deep.Draws
namespace Go.Proofs.Ytbipkbcmcidalaa
open Go.RowKit

theorem bel_drewN (w : World) (n : Nat) : Below w.heap.size w (w.drewN n) := ⟨rfl, rfl, rfl, Nat.le_refl _, fun _ _ => rfl⟩

def bcells (l : List UInt8) : List Value := l.map fun b => Value.int .u8 (b.toNat : Int)
theorem bcells_len (l : List UInt8) : (bcells l).length = l.length := by simp [bcells]
theorem bcells_snoc (l : List UInt8) (b : UInt8) : bcells (l ++ [b]) = bcells l ++ [Value.int .u8 (b.toNat : Int)] := by simp [bcells]
theorem bcells_append (l m : List UInt8) : bcells (l ++ m) = bcells l ++ bcells m := by simp [bcells]

/-- The digits of u to the base 128, the lowest first; all but the last bear 128 more. -/
def digs (u : Nat) : List UInt8 := if u < 128 then [UInt8.ofNat u] else UInt8.ofNat (u % 128 + 128) :: digs (u / 128)
termination_by u
theorem digs_lt {u : Nat} (h : u < 128) : digs u = [UInt8.ofNat u] := by rw [digs, if_pos h]
theorem digs_ge {u : Nat} (h : ¬ u < 128) : digs u = UInt8.ofNat (u % 128 + 128) :: digs (u / 128) := by rw [digs, if_neg h]
theorem digs_len_pos (u : Nat) : 0 < (digs u).length := by
  by_cases h : u < 128
  · rw [digs_lt h]; simp
  · rw [digs_ge h]; simp
theorem digs_len (k : Nat) : ∀ u, u < 128 ^ (k + 1) → (digs u).length ≤ k + 1 := by
  induction k with
  | zero => intro u h; rw [digs_lt (by simpa using h)]; simp
  | succ k ih =>
    intro u h
    by_cases h' : u < 128
    · rw [digs_lt h']; simp
    · rw [digs_ge h']
      have := ih (u / 128) (by rw [Nat.div_lt_iff_lt_mul (by omega)]; rw [Nat.pow_succ] at h; exact h)
      simp only [List.length_cons]; omega
theorem digs_len9 (u : Nat) (h : u ≤ 2305843009213693952) : (digs u).length ≤ 9 := by
  refine digs_len 8 u ?_
  have e : (128 : Nat) ^ (8 + 1) = 9223372036854775808 := by decide
  omega

theorem digs_len_succ (u : Nat) : (digs u).length ≤ (digs (u + 1)).length ∧ (digs (u + 1)).length ≤ (digs u).length + 1 := by
  induction u using Nat.strongRecOn with
  | _ u ih =>
    by_cases h : u + 1 < 128
    · rw [digs_lt h, digs_lt (by omega)]; simp
    · by_cases h' : u < 128
      · rw [digs_ge h, digs_lt h', digs_lt (by omega)]; simp
      · rw [digs_ge h, digs_ge h']
        simp only [List.length_cons]
        by_cases hd : (u + 1) / 128 = u / 128
        · rw [hd]; omega
        · have e : (u + 1) / 128 = u / 128 + 1 := by omega
          have := ih (u / 128) (by omega)
          rw [e]; omega

/-- Cells that are owned, one more behind them: the row's relation of a loop that appends one byte. -/
theorem own_snoc {B : Nat} {e : TypeId} {v v' : Value} {p : List UInt8} (b : UInt8) {x : Int} (hx : x = (b.toNat : Int)) {w wr w1 : World} {o : Obj} (hB : B ≤ wr.heap.size)
    (hown : wr.ownsRow B e 1 v p.length (bcells p)) (hnx : Below B w wr)
    (hown' : w1.ownsRow B e 1 v' (p.length + 1) (bcells p ++ [.int .u8 x])) (hgrow : (wr.alloc o).grownBy w1 v.ownBlock) :
    w1.ownsRow B e 1 v' (p ++ [b]).length (bcells (p ++ [b])) ∧ Below B w w1 := by
  subst hx
  refine ⟨by rw [bcells_snoc]; simpa using hown', (hnx.alloc hB o).grown hgrow (by simp; omega) (fun j hj => (hown.lt j hj).1)⟩

/-- 'string(b)' of a row of bytes that is owned. -/
theorem own_string {P : Program} {B : Nat} {src dst e : TypeId} {v : Value} {l : List UInt8} {w : World} (hs : P.underlying src = some (.slice e)) (he : P.underlying e = some (.int .u8)) (hd : P.underlying dst = some .string)
    (hown : w.ownsRow B e 1 v l.length (bcells l)) : l ≠ [] → (convert src dst v).run P w = .ok (.string ⟨l.toArray⟩) w := by
  intro hne
  have hw := hown
  obtain ⟨_, h | ⟨g, cap, cur, rfl, _, _, _, _, _, _⟩⟩ := hown
  · exact absurd (List.length_eq_zero_iff.1 h.2) hne
  · refine run_convert_bytes_back w src dst e ⟨g, 0, none⟩ cap l hs he hd ?_
    intro j hj
    exact hw.cells rfl j _ (by simp [bcells, List.getElem?_map, List.getElem?_eq_getElem hj])
end Go.Proofs.Ytbipkbcmcidalaa
