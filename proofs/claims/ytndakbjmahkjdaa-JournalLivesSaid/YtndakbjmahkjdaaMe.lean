/-
  Joined: DiskMath2, Small, Digs.
-/
import Derived.Test.YtndakbjmahkjdaaMd
import Derived.Test.YtndakbjmahkjdaaChecked
import Derived.WalkKit
import Derived.ProofKit
import Derived.OpenShut
import Derived.Lib.Hide
import Derived.IntWalk
import Derived.Below
import Derived.Laws.AppendOwn
import Derived.Laws.IdiomStrings
import Derived.Deep.Draws

/-
  Plain mathematics of flushes and reads: a flush changes nothing of what is read, and behind it a crash changes nothing; what Get returns, as one function.
-/
namespace Go.Proofs.Ytndakbjmahkjdaa.Disk
open Go.RowKit Go.Lib

theorem bit_all {j : Nat} (h : j < 64) : bitB 18446744073709551615 j = true := by
  have key : ∀ j : Fin 64, bitB 18446744073709551615 j.1 = true := by decide +kernel
  exact key ⟨j, h⟩
theorem lost_none {kp : Nat} : ∀ {n : Nat}, (∀ j, j < n → bitB kp j = true) → lostO kp n = none
  | 0, _ => rfl
  | n + 1, h => by
    unfold lostO
    rw [if_pos (h n (by omega))]
    exact lost_none fun j hj => h j (by omega)
theorem keep_rd {ls : List ByteArray} {ws : List (Int × ByteArray)} (hP : rightP ls ws) : ∀ n, n ≤ ws.length → ∀ k, k < ls.length → (keepTo 18446744073709551615 ls ws n).getD k ⟨#[]⟩ = rd k (ls.getD k ⟨#[]⟩) (ws.take n)
  | 0, _, k, _ => by simp [keepTo, rd]
  | n + 1, hn, k, hk => by
    have hn' : n < ws.length := by omega
    have h64 := hP.2.2.1
    obtain ⟨y1, y2, y3⟩ := hP.2.2.2.2 n hn'
    have e : keepTo 18446744073709551615 ls ws (n + 1) = (keepTo 18446744073709551615 ls ws n).set (wat ws n).1.toNat (wat ws n).2 := if_pos (bit_all (by omega))
    rw [e, wat_at hn', List.take_succ_eq_append_getElem hn', rd_snoc, List.getD, List.getElem?_set]
    by_cases hc : ws[n].1.toNat = k
    · rw [if_pos hc, if_pos (by rw [keepTo_len]; omega), if_pos (by omega)]
      rfl
    · rw [if_neg hc, if_neg (by omega)]
      exact keep_rd hP n (by omega) k hk
/-- What a flush leaves. -/
def flushL (ls : List ByteArray) (ws : List (Int × ByteArray)) : List ByteArray := crashL 18446744073709551615 ls ws 0
theorem flush_rd {ls : List ByteArray} {ws : List (Int × ByteArray)} (hP : rightP ls ws) {k : Nat} (hk : k < ls.length) : (flushL ls ws).getD k ⟨#[]⟩ = rd k (ls.getD k ⟨#[]⟩) ws := by
  have h64 := hP.2.2.1
  unfold flushL crashL
  rw [lost_none fun j hj => bit_all (by omega)]
  have := keep_rd hP ws.length (Nat.le_refl _) k hk
  rwa [List.take_of_length_le (Nat.le_refl _)] at this
theorem flush_len (ls : List ByteArray) (ws : List (Int × ByteArray)) : (flushL ls ws).length = ls.length := crashL_len _ _ _ _
theorem crash_nil (kp : Nat) (l : List ByteArray) (t : Int) : crashL kp l [] t = l := rfl
theorem crash_right {kp : Nat} {ls : List ByteArray} {ws : List (Int × ByteArray)} {t : Int} (h : rightB ls ws = true) : rightB (crashL kp ls ws t) [] = true := by
  have hP := rightB_t.1 h
  refine rightB_t.2 ⟨by rw [crashL_len]; exact hP.1, by rw [crashL_len]; exact hP.2.1, by simp, fun j hj => ?_, fun j hj => by simp at hj⟩
  have := (crashL_made (kp := kp) hP t (a := j) (by rw [crashL_len] at hj; exact hj)).2
  rwa [getD_eq hj] at this
/-- What Get returns of a disk that may be. -/
def getS (ls : List ByteArray) (ws : List (Int × ByteArray)) (k : Int) : ByteArray := if hasB ls.length k = true then rd k (ls.getD k.toNat ⟨#[]⟩) ws else ⟨#[]⟩
def getE (n : Nat) (k : Int) : Int := if hasB n k = true then 0 else 8
theorem get_flush {ls : List ByteArray} {ws : List (Int × ByteArray)} (h : rightB ls ws = true) (k : Int) : getS (flushL ls ws) [] k = getS ls ws k ∧ getE (flushL ls ws).length k = getE ls.length k := by
  unfold getS getE
  rw [flush_len]
  refine ⟨?_, rfl⟩
  by_cases hk : hasB ls.length k = true
  · rw [if_pos hk, if_pos hk]
    have := hasB_t.1 hk
    obtain ⟨n, rfl⟩ : ∃ n : Nat, k = n := ⟨k.toNat, by omega⟩
    rw [Int.toNat_natCast, ← flush_rd (rightB_t.1 h) (by omega)]
    rfl
  · rw [if_neg hk, if_neg hk]
theorem get_other {ls : List ByteArray} {ws : List (Int × ByteArray)} {i k : Int} {d : ByteArray} (h : k ≠ i) : getS ls (ws ++ [(i, d)]) k = getS ls ws k := by
  have e : rd k (ls.getD k.toNat ⟨#[]⟩) (ws ++ [(i, d)]) = rd k (ls.getD k.toNat ⟨#[]⟩) ws := by rw [rd_snoc, if_neg (fun e => h e.symm)]
  unfold getS
  rw [e]
theorem get_same {ls : List ByteArray} {ws : List (Int × ByteArray)} {i : Int} {d : ByteArray} (h : hasB ls.length i = true) : getS ls (ws ++ [(i, d)]) i = d := by
  unfold getS
  rw [if_pos h, rd_snoc, if_pos rfl]
theorem put_right {ls : List ByteArray} {ws : List (Int × ByteArray)} {i : Int} {d : ByteArray} (h : rightB ls ws = true) (hi : hasB ls.length i = true) (hd : d.size = 64) (hw : ws.length < 64) : rightB ls (ws ++ [(i, d)]) = true := by
  have hP := rightB_t.1 h
  have hi' := hasB_t.1 hi
  refine rightB_t.2 ⟨hP.1, hP.2.1, by rw [List.length_append]; simp; omega, hP.2.2.2.1, fun j hj => ?_⟩
  by_cases c : j < ws.length
  · rw [List.getElem_append_left c]; exact hP.2.2.2.2 j c
  · rw [List.getElem_append_right (by omega)]
    simp
    exact ⟨hi'.1, hi'.2, hd⟩

theorem Get_any {vS vW : Value} {ls : List ByteArray} {ws : List (Int × ByteArray)} {w : World} (hS : SRow w vS ls) (hW : WRow w vW ws) (hb : rightB ls ws = true) (k : Int) : Calls Try.prog 37 #[.agg #[vS, vW], .int .i64 k] w (TextE (getS ls ws k) (getE ls.length k) w) := by
  have hP := rightB_t.1 hb
  have hr : smallP ls ws := ⟨by have := hP.2.1; omega, by have := hP.2.2.1; omega, fun j h => by rw [hP.2.2.2.1 j h]; omega, fun j h => by rw [(hP.2.2.2.2 j h).2.2]; omega⟩
  unfold getS getE
  by_cases hk : hasB ls.length k = true
  · rw [if_pos hk, if_pos hk]
    have := hasB_t.1 hk
    obtain ⟨n, rfl⟩ : ∃ n : Nat, k = n := ⟨k.toNat, by omega⟩
    have hn : n < ls.length := by omega
    rw [Int.toNat_natCast, getD_eq hn]
    exact Get_yes hS hW hr hb n hn
  · rw [if_neg hk, if_neg hk]
    exact Get_none hS hW hr hb k (by simpa using hk)
end Go.Proofs.Ytndakbjmahkjdaa.Disk

/-
  Contracts of the small functions of package pack and of the reference: which numbers may be, sizes, folding. Each is proved for every integer that its type holds.
-/
namespace Go.Proofs.Ytndakbjmahkjdaa
open Go.ChangeShapes Go.WideShapes Go.ChangeAt Go.RowKit

theorem ret_int {k : IntKind} {a b : Int} (h : a = b) : Ending.returned (.int k a) = .returned (.int k b) := by rw [h]
theorem v_int {k : IntKind} {a b : Int} (h : a = b) : Value.int k a = .int k b := by rw [h]
theorem ret_bool {a b : Bool} (h : a = b) : Ending.returned (.bool a) = .returned (.bool b) := by rw [h]

def mayB (n : Int) : Bool := decide (-1152921504606846976 ≤ n ∧ n ≤ 1152921504606846976)
theorem mayB_t {n : Int} : mayB n = true ↔ (-1152921504606846976 ≤ n ∧ n ≤ 1152921504606846976) := by unfold mayB; simp
theorem mayB_f {n : Int} : mayB n = false ↔ (n < -1152921504606846976 ∨ 1152921504606846976 < n) := by unfold mayB; simp; omega

theorem mayBe_any (n : Int) (w : World) :
    Calls Try.prog 79 #[.int .i64 n] w fun e w' => e = .returned (.bool (mayB n)) ∧ w = w' := by
  by_cases h1 : -1152921504606846976 ≤ n
  · by_cases h2 : n ≤ 1152921504606846976
    · go_enter Try.func79, Try.ntmps79
      go_wp2
      go_ret
      exact ⟨ret_bool (mayB_t.2 ⟨h1, h2⟩).symm, rfl⟩
    · go_enter Try.func79, Try.ntmps79
      go_wp2
      go_ret
      exact ⟨ret_bool (mayB_f.2 (by omega)).symm, rfl⟩
  · go_enter Try.func79, Try.ntmps79
    go_wp2
    go_ret
    exact ⟨ret_bool (mayB_f.2 (by omega)).symm, rfl⟩

theorem size_any (n : Int) (w : World) (h1 : -1152921504606846976 ≤ n) (h2 : n ≤ 1152921504606846976) :
    Calls Try.prog 90 #[.int .i64 n] w fun e w' => e = .returned (.int .u64 n.natAbs) ∧ w = w' := by
  by_cases h : n < 0
  · go_enter Try.func90, Try.ntmps90
    go_wp2
    go_ret
    exact ⟨ret_int (by omega), rfl⟩
  · go_enter Try.func90, Try.ntmps90
    go_wp2
    go_ret
    exact ⟨ret_int (by omega), rfl⟩

def fold (n : Int) : Nat := if n < 0 then 2 * n.natAbs - 1 else 2 * n.natAbs
theorem fold_neg {n : Int} (h : n < 0) : (fold n : Int) = 2 * (n.natAbs : Int) - 1 := by unfold fold; rw [if_pos h]; omega
theorem fold_pos {n : Int} (h : ¬ n < 0) : (fold n : Int) = 2 * (n.natAbs : Int) := by unfold fold; rw [if_neg h]; omega
theorem fold_le {n : Int} (h1 : -1152921504606846976 ≤ n) (h2 : n ≤ 1152921504606846976) : fold n ≤ 2305843009213693952 := by unfold fold; split <;> omega

theorem fold_any (n : Int) (w : World) (h1 : -1152921504606846976 ≤ n) (h2 : n ≤ 1152921504606846976) :
    Calls Try.prog 85 #[.int .i64 n] w fun e w' => e = .returned (.int .u64 (fold n)) ∧ w = w' := by
  by_cases h : n < 0
  · go_enter Try.func85, Try.ntmps85
    go_wp2_with (go_at_call 90; refine (size_any _ _ h1 h2).mono ?_; rintro e w' ⟨rfl, rfl⟩)
    go_ret
    exact ⟨ret_int (by rw [fold_neg h]), rfl⟩
  · go_enter Try.func85, Try.ntmps85
    go_wp2_with (go_at_call 90; refine (size_any _ _ h1 h2).mono ?_; rintro e w' ⟨rfl, rfl⟩)
    go_ret
    exact ⟨ret_int (by rw [fold_pos (by omega)]), rfl⟩
end Go.Proofs.Ytndakbjmahkjdaa

/-
  Plain mathematics of numbers' bytes: the digits of a natural number to the base 128, the lowest first; what they are read as. Nothing of the program.
-/
namespace Go.Proofs.Ytndakbjmahkjdaa
open Go.RowKit

theorem bel_drewN (w : World) (n : Nat) : Below w.heap.size w (w.drewN n) := ⟨rfl, rfl, rfl, Nat.le_refl _, fun _ _ => rfl⟩

def bcells (l : List UInt8) : List Value := l.map fun b => Value.int .u8 (b.toNat : Int)
theorem bcells_len (l : List UInt8) : (bcells l).length = l.length := by simp [bcells]
theorem bcells_snoc (l : List UInt8) (b : UInt8) : bcells (l ++ [b]) = bcells l ++ [Value.int .u8 (b.toNat : Int)] := by simp [bcells]
theorem bcells_append (l m : List UInt8) : bcells (l ++ m) = bcells l ++ bcells m := by simp [bcells]

/-- The digits of u to the base 128, the lowest first; all but the last bear 128 more. -/
def digs (u : Nat) : List UInt8 := if u < 128 then [UInt8.ofNat u] else UInt8.ofNat (u % 128 + 128) :: digs (u / 128)
termination_by u
theorem digs_lt {u : Nat} (h : u < 128) : digs u = [UInt8.ofNat u] := by rw [digs, if_pos h]
theorem digs_ge {u : Nat} (h : ¬ u < 128) : digs u = UInt8.ofNat (u % 128 + 128) :: digs (u / 128) := by rw [digs, if_neg h]
theorem digs_len_pos (u : Nat) : 0 < (digs u).length := by
  by_cases h : u < 128
  · rw [digs_lt h]; simp
  · rw [digs_ge h]; simp
theorem digs_len (k : Nat) : ∀ u, u < 128 ^ (k + 1) → (digs u).length ≤ k + 1 := by
  induction k with
  | zero => intro u h; rw [digs_lt (by simpa using h)]; simp
  | succ k ih =>
    intro u h
    by_cases h' : u < 128
    · rw [digs_lt h']; simp
    · rw [digs_ge h']
      have := ih (u / 128) (by rw [Nat.div_lt_iff_lt_mul (by omega)]; rw [Nat.pow_succ] at h; exact h)
      simp only [List.length_cons]; omega
theorem digs_len9 (u : Nat) (h : u ≤ 2305843009213693952) : (digs u).length ≤ 9 := by
  refine digs_len 8 u ?_
  have e : (128 : Nat) ^ (8 + 1) = 9223372036854775808 := by decide
  omega

theorem digs_len_succ (u : Nat) : (digs u).length ≤ (digs (u + 1)).length ∧ (digs (u + 1)).length ≤ (digs u).length + 1 := by
  induction u using Nat.strongRecOn with
  | _ u ih =>
    by_cases h : u + 1 < 128
    · rw [digs_lt h, digs_lt (by omega)]; simp
    · by_cases h' : u < 128
      · rw [digs_ge h, digs_lt h', digs_lt (by omega)]; simp
      · rw [digs_ge h, digs_ge h']
        simp only [List.length_cons]
        by_cases hd : (u + 1) / 128 = u / 128
        · rw [hd]; omega
        · have e : (u + 1) / 128 = u / 128 + 1 := by omega
          have := ih (u / 128) (by omega)
          rw [e]; omega

/-- Cells that are owned, one more behind them: the row's relation of a loop that appends one byte. -/
theorem own_snoc {B : Nat} {e : TypeId} {v v' : Value} {p : List UInt8} (b : UInt8) {x : Int} (hx : x = (b.toNat : Int)) {w wr w1 : World} {o : Obj} (hB : B ≤ wr.heap.size)
    (hown : wr.ownsRow B e 1 v p.length (bcells p)) (hnx : Below B w wr)
    (hown' : w1.ownsRow B e 1 v' (p.length + 1) (bcells p ++ [.int .u8 x])) (hgrow : (wr.alloc o).grownBy w1 v.ownBlock) :
    w1.ownsRow B e 1 v' (p ++ [b]).length (bcells (p ++ [b])) ∧ Below B w w1 := by
  subst hx
  refine ⟨by rw [bcells_snoc]; simpa using hown', (hnx.alloc hB o).grown hgrow (by simp; omega) (fun j hj => (hown.lt j hj).1)⟩

/-- 'string(b)' of a row of bytes that is owned. -/
theorem own_string {P : Program} {B : Nat} {src dst e : TypeId} {v : Value} {l : List UInt8} {w : World} (hs : P.underlying src = some (.slice e)) (he : P.underlying e = some (.int .u8)) (hd : P.underlying dst = some .string)
    (hown : w.ownsRow B e 1 v l.length (bcells l)) : l ≠ [] → (convert src dst v).run P w = .ok (.string ⟨l.toArray⟩) w := by
  intro hne
  have hw := hown
  obtain ⟨_, h | ⟨g, cap, cur, rfl, _, _, _, _, _, _⟩⟩ := hown
  · exact absurd (List.length_eq_zero_iff.1 h.2) hne
  · refine run_convert_bytes_back w src dst e ⟨g, 0, none⟩ cap l hs he hd ?_
    intro j hj
    exact hw.cells rfl j _ (by simp [bcells, List.getElem?_map, List.getElem?_eq_getElem hj])
end Go.Proofs.Ytndakbjmahkjdaa
