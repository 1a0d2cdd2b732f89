/-
  Joined: DiskMath2, Small, Digs, Num.
-/
import Derived.Test.YtlpkalfbcphkmaaGreatMc
import Derived.Test.YtlpkalfbcphkmaaGreatChecked
import Derived.WalkKit
import Derived.ProofKit
import Derived.OpenShut
import Derived.Lib.Hide
import Derived.IntWalk
import Derived.Below
import Derived.Laws.AppendOwn
import Derived.Laws.IdiomStrings
import Derived.Deep.Draws
import Derived.OwnWalk
import Derived.WalkSpells

/-
  Plain mathematics of flushes and reads: a flush changes nothing of what is read, and behind it a crash changes nothing; what Get returns, as one function.
-/
namespace Go.Proofs.YtlpkalfbcphkmaaGreat.Disk
open Go.RowKit Go.Lib

theorem bit_all {j : Nat} (h : j < 64) : bitB 18446744073709551615 j = true := by
  have key : ∀ j : Fin 64, bitB 18446744073709551615 j.1 = true := by decide +kernel
  exact key ⟨j, h⟩
theorem lost_none {kp : Nat} : ∀ {n : Nat}, (∀ j, j < n → bitB kp j = true) → lostO kp n = none
  | 0, _ => rfl
  | n + 1, h => by
    unfold lostO
    rw [if_pos (h n (by omega))]
    exact lost_none fun j hj => h j (by omega)
theorem keep_rd {ls : List ByteArray} {ws : List (Int × ByteArray)} (hP : rightP ls ws) : ∀ n, n ≤ ws.length → ∀ k, k < ls.length → (keepTo 18446744073709551615 ls ws n).getD k ⟨#[]⟩ = rd k (ls.getD k ⟨#[]⟩) (ws.take n)
  | 0, _, k, _ => by simp [keepTo, rd]
  | n + 1, hn, k, hk => by
    have hn' : n < ws.length := by omega
    have h64 := hP.2.2.1
    obtain ⟨y1, y2, y3⟩ := hP.2.2.2.2 n hn'
    have e : keepTo 18446744073709551615 ls ws (n + 1) = (keepTo 18446744073709551615 ls ws n).set (wat ws n).1.toNat (wat ws n).2 := if_pos (bit_all (by omega))
    rw [e, wat_at hn', List.take_succ_eq_append_getElem hn', rd_snoc, List.getD, List.getElem?_set]
    by_cases hc : ws[n].1.toNat = k
    · rw [if_pos hc, if_pos (by rw [keepTo_len]; omega), if_pos (by omega)]
      rfl
    · rw [if_neg hc, if_neg (by omega)]
      exact keep_rd hP n (by omega) k hk
/-- What a flush leaves. -/
def flushL (ls : List ByteArray) (ws : List (Int × ByteArray)) : List ByteArray := crashL 18446744073709551615 ls ws 0
theorem flush_rd {ls : List ByteArray} {ws : List (Int × ByteArray)} (hP : rightP ls ws) {k : Nat} (hk : k < ls.length) : (flushL ls ws).getD k ⟨#[]⟩ = rd k (ls.getD k ⟨#[]⟩) ws := by
  have h64 := hP.2.2.1
  unfold flushL crashL
  rw [lost_none fun j hj => bit_all (by omega)]
  have := keep_rd hP ws.length (Nat.le_refl _) k hk
  rwa [List.take_of_length_le (Nat.le_refl _)] at this
theorem flush_len (ls : List ByteArray) (ws : List (Int × ByteArray)) : (flushL ls ws).length = ls.length := crashL_len _ _ _ _
theorem crash_nil (kp : Nat) (l : List ByteArray) (t : Int) : crashL kp l [] t = l := rfl
theorem crash_right {kp : Nat} {ls : List ByteArray} {ws : List (Int × ByteArray)} {t : Int} (h : rightB ls ws = true) : rightB (crashL kp ls ws t) [] = true := by
  have hP := rightB_t.1 h
  refine rightB_t.2 ⟨by rw [crashL_len]; exact hP.1, by rw [crashL_len]; exact hP.2.1, by simp, fun j hj => ?_, fun j hj => by simp at hj⟩
  have := (crashL_made (kp := kp) hP t (a := j) (by rw [crashL_len] at hj; exact hj)).2
  rwa [getD_eq hj] at this
/-- What Get returns of a disk that may be. -/
def getS (ls : List ByteArray) (ws : List (Int × ByteArray)) (k : Int) : ByteArray := if hasB ls.length k = true then rd k (ls.getD k.toNat ⟨#[]⟩) ws else ⟨#[]⟩
def getE (n : Nat) (k : Int) : Int := if hasB n k = true then 0 else 8
theorem get_flush {ls : List ByteArray} {ws : List (Int × ByteArray)} (h : rightB ls ws = true) (k : Int) : getS (flushL ls ws) [] k = getS ls ws k ∧ getE (flushL ls ws).length k = getE ls.length k := by
  unfold getS getE
  rw [flush_len]
  refine ⟨?_, rfl⟩
  by_cases hk : hasB ls.length k = true
  · rw [if_pos hk, if_pos hk]
    have := hasB_t.1 hk
    obtain ⟨n, rfl⟩ : ∃ n : Nat, k = n := ⟨k.toNat, by omega⟩
    rw [Int.toNat_natCast, ← flush_rd (rightB_t.1 h) (by omega)]
    rfl
  · rw [if_neg hk, if_neg hk]
theorem get_other {ls : List ByteArray} {ws : List (Int × ByteArray)} {i k : Int} {d : ByteArray} (h : k ≠ i) : getS ls (ws ++ [(i, d)]) k = getS ls ws k := by
  have e : rd k (ls.getD k.toNat ⟨#[]⟩) (ws ++ [(i, d)]) = rd k (ls.getD k.toNat ⟨#[]⟩) ws := by rw [rd_snoc, if_neg (fun e => h e.symm)]
  unfold getS
  rw [e]
theorem get_same {ls : List ByteArray} {ws : List (Int × ByteArray)} {i : Int} {d : ByteArray} (h : hasB ls.length i = true) : getS ls (ws ++ [(i, d)]) i = d := by
  unfold getS
  rw [if_pos h, rd_snoc, if_pos rfl]
theorem put_right {ls : List ByteArray} {ws : List (Int × ByteArray)} {i : Int} {d : ByteArray} (h : rightB ls ws = true) (hi : hasB ls.length i = true) (hd : d.size = 64) (hw : ws.length < 64) : rightB ls (ws ++ [(i, d)]) = true := by
  have hP := rightB_t.1 h
  have hi' := hasB_t.1 hi
  refine rightB_t.2 ⟨hP.1, hP.2.1, by rw [List.length_append]; simp; omega, hP.2.2.2.1, fun j hj => ?_⟩
  by_cases c : j < ws.length
  · rw [List.getElem_append_left c]; exact hP.2.2.2.2 j c
  · rw [List.getElem_append_right (by omega)]
    simp
    exact ⟨hi'.1, hi'.2, hd⟩

theorem Get_any {vS vW : Value} {ls : List ByteArray} {ws : List (Int × ByteArray)} {w : World} (hS : SRow w vS ls) (hW : WRow w vW ws) (hb : rightB ls ws = true) (k : Int) : Calls Tryz.prog 80 #[.agg #[vS, vW], .int .i64 k] w (TextE (getS ls ws k) (getE ls.length k) w) := by
  have hP := rightB_t.1 hb
  have hr : smallP ls ws := ⟨by have := hP.2.1; omega, by have := hP.2.2.1; omega, fun j h => by rw [hP.2.2.2.1 j h]; omega, fun j h => by rw [(hP.2.2.2.2 j h).2.2]; omega⟩
  unfold getS getE
  by_cases hk : hasB ls.length k = true
  · rw [if_pos hk, if_pos hk]
    have := hasB_t.1 hk
    obtain ⟨n, rfl⟩ : ∃ n : Nat, k = n := ⟨k.toNat, by omega⟩
    have hn : n < ls.length := by omega
    rw [Int.toNat_natCast, getD_eq hn]
    exact Get_yes hS hW hr hb n hn
  · rw [if_neg hk, if_neg hk]
    exact Get_none hS hW hr hb k (by simpa using hk)
end Go.Proofs.YtlpkalfbcphkmaaGreat.Disk

/-
  Contracts of the small functions of package pack and of the reference: which numbers may be, sizes, folding. Each is proved for every integer that its type holds.
-/
namespace Go.Proofs.YtlpkalfbcphkmaaGreat
open Go.ChangeShapes Go.WideShapes Go.ChangeAt Go.RowKit

theorem ret_int {k : IntKind} {a b : Int} (h : a = b) : Ending.returned (.int k a) = .returned (.int k b) := by rw [h]
theorem v_int {k : IntKind} {a b : Int} (h : a = b) : Value.int k a = .int k b := by rw [h]
theorem ret_bool {a b : Bool} (h : a = b) : Ending.returned (.bool a) = .returned (.bool b) := by rw [h]

def mayB (n : Int) : Bool := decide (-1152921504606846976 ≤ n ∧ n ≤ 1152921504606846976)
theorem mayB_t {n : Int} : mayB n = true ↔ (-1152921504606846976 ≤ n ∧ n ≤ 1152921504606846976) := by unfold mayB; simp
theorem mayB_f {n : Int} : mayB n = false ↔ (n < -1152921504606846976 ∨ 1152921504606846976 < n) := by unfold mayB; simp; omega

theorem mayBe_any (n : Int) (w : World) :
    Calls Tryz.prog 110 #[.int .i64 n] w fun e w' => e = .returned (.bool (mayB n)) ∧ w = w' := by
  by_cases h1 : -1152921504606846976 ≤ n
  · by_cases h2 : n ≤ 1152921504606846976
    · go_enter Tryz.func110, Tryz.ntmps110
      go_wp2
      go_ret
      exact ⟨ret_bool (mayB_t.2 ⟨h1, h2⟩).symm, rfl⟩
    · go_enter Tryz.func110, Tryz.ntmps110
      go_wp2
      go_ret
      exact ⟨ret_bool (mayB_f.2 (by omega)).symm, rfl⟩
  · go_enter Tryz.func110, Tryz.ntmps110
    go_wp2
    go_ret
    exact ⟨ret_bool (mayB_f.2 (by omega)).symm, rfl⟩

theorem May_any (n : Int) (w : World) :
    Calls Tryz.prog 92 #[.int .i64 n] w fun e w' => e = .returned (.bool (mayB n)) ∧ w = w' := by
  by_cases h1 : -1152921504606846976 ≤ n
  · by_cases h2 : n ≤ 1152921504606846976
    · go_enter Tryz.func92, Tryz.ntmps92
      go_wp2
      go_ret
      exact ⟨ret_bool (mayB_t.2 ⟨h1, h2⟩).symm, rfl⟩
    · go_enter Tryz.func92, Tryz.ntmps92
      go_wp2
      go_ret
      exact ⟨ret_bool (mayB_f.2 (by omega)).symm, rfl⟩
  · go_enter Tryz.func92, Tryz.ntmps92
    go_wp2
    go_ret
    exact ⟨ret_bool (mayB_f.2 (by omega)).symm, rfl⟩

theorem size_any (n : Int) (w : World) (h1 : -1152921504606846976 ≤ n) (h2 : n ≤ 1152921504606846976) :
    Calls Tryz.prog 122 #[.int .i64 n] w fun e w' => e = .returned (.int .u64 n.natAbs) ∧ w = w' := by
  by_cases h : n < 0
  · go_enter Tryz.func122, Tryz.ntmps122
    go_wp2
    go_ret
    exact ⟨ret_int (by omega), rfl⟩
  · go_enter Tryz.func122, Tryz.ntmps122
    go_wp2
    go_ret
    exact ⟨ret_int (by omega), rfl⟩

def fold (n : Int) : Nat := if n < 0 then 2 * n.natAbs - 1 else 2 * n.natAbs
theorem fold_neg {n : Int} (h : n < 0) : (fold n : Int) = 2 * (n.natAbs : Int) - 1 := by unfold fold; rw [if_pos h]; omega
theorem fold_pos {n : Int} (h : ¬ n < 0) : (fold n : Int) = 2 * (n.natAbs : Int) := by unfold fold; rw [if_neg h]; omega
theorem fold_le {n : Int} (h1 : -1152921504606846976 ≤ n) (h2 : n ≤ 1152921504606846976) : fold n ≤ 2305843009213693952 := by unfold fold; split <;> omega

theorem fold_any (n : Int) (w : World) (h1 : -1152921504606846976 ≤ n) (h2 : n ≤ 1152921504606846976) :
    Calls Tryz.prog 117 #[.int .i64 n] w fun e w' => e = .returned (.int .u64 (fold n)) ∧ w = w' := by
  by_cases h : n < 0
  · go_enter Tryz.func117, Tryz.ntmps117
    go_wp2_with (go_at_call 122; refine (size_any _ _ h1 h2).mono ?_; rintro e w' ⟨rfl, rfl⟩)
    go_ret
    exact ⟨ret_int (by rw [fold_neg h]), rfl⟩
  · go_enter Tryz.func117, Tryz.ntmps117
    go_wp2_with (go_at_call 122; refine (size_any _ _ h1 h2).mono ?_; rintro e w' ⟨rfl, rfl⟩)
    go_ret
    exact ⟨ret_int (by rw [fold_pos (by omega)]), rfl⟩
end Go.Proofs.YtlpkalfbcphkmaaGreat

/-
  Plain mathematics of numbers' bytes: the digits of a natural number to the base 128, the lowest first; what they are read as. Nothing of the program.
-/
namespace Go.Proofs.YtlpkalfbcphkmaaGreat
open Go.RowKit

theorem bel_drewN (w : World) (n : Nat) : Below w.heap.size w (w.drewN n) := ⟨rfl, rfl, rfl, Nat.le_refl _, fun _ _ => rfl⟩

def bcells (l : List UInt8) : List Value := l.map fun b => Value.int .u8 (b.toNat : Int)
theorem bcells_len (l : List UInt8) : (bcells l).length = l.length := by simp [bcells]
theorem bcells_snoc (l : List UInt8) (b : UInt8) : bcells (l ++ [b]) = bcells l ++ [Value.int .u8 (b.toNat : Int)] := by simp [bcells]
theorem bcells_append (l m : List UInt8) : bcells (l ++ m) = bcells l ++ bcells m := by simp [bcells]

/-- The digits of u to the base 128, the lowest first; all but the last bear 128 more. -/
def digs (u : Nat) : List UInt8 := if u < 128 then [UInt8.ofNat u] else UInt8.ofNat (u % 128 + 128) :: digs (u / 128)
termination_by u
theorem digs_lt {u : Nat} (h : u < 128) : digs u = [UInt8.ofNat u] := by rw [digs, if_pos h]
theorem digs_ge {u : Nat} (h : ¬ u < 128) : digs u = UInt8.ofNat (u % 128 + 128) :: digs (u / 128) := by rw [digs, if_neg h]
theorem digs_len_pos (u : Nat) : 0 < (digs u).length := by
  by_cases h : u < 128
  · rw [digs_lt h]; simp
  · rw [digs_ge h]; simp
theorem digs_len (k : Nat) : ∀ u, u < 128 ^ (k + 1) → (digs u).length ≤ k + 1 := by
  induction k with
  | zero => intro u h; rw [digs_lt (by simpa using h)]; simp
  | succ k ih =>
    intro u h
    by_cases h' : u < 128
    · rw [digs_lt h']; simp
    · rw [digs_ge h']
      have := ih (u / 128) (by rw [Nat.div_lt_iff_lt_mul (by omega)]; rw [Nat.pow_succ] at h; exact h)
      simp only [List.length_cons]; omega
theorem digs_len9 (u : Nat) (h : u ≤ 2305843009213693952) : (digs u).length ≤ 9 := by
  refine digs_len 8 u ?_
  have e : (128 : Nat) ^ (8 + 1) = 9223372036854775808 := by decide
  omega

theorem digs_len_succ (u : Nat) : (digs u).length ≤ (digs (u + 1)).length ∧ (digs (u + 1)).length ≤ (digs u).length + 1 := by
  induction u using Nat.strongRecOn with
  | _ u ih =>
    by_cases h : u + 1 < 128
    · rw [digs_lt h, digs_lt (by omega)]; simp
    · by_cases h' : u < 128
      · rw [digs_ge h, digs_lt h', digs_lt (by omega)]; simp
      · rw [digs_ge h, digs_ge h']
        simp only [List.length_cons]
        by_cases hd : (u + 1) / 128 = u / 128
        · rw [hd]; omega
        · have e : (u + 1) / 128 = u / 128 + 1 := by omega
          have := ih (u / 128) (by omega)
          rw [e]; omega

/-- Cells that are owned, one more behind them: the row's relation of a loop that appends one byte. -/
theorem own_snoc {B : Nat} {e : TypeId} {v v' : Value} {p : List UInt8} (b : UInt8) {x : Int} (hx : x = (b.toNat : Int)) {w wr w1 : World} {o : Obj} (hB : B ≤ wr.heap.size)
    (hown : wr.ownsRow B e 1 v p.length (bcells p)) (hnx : Below B w wr)
    (hown' : w1.ownsRow B e 1 v' (p.length + 1) (bcells p ++ [.int .u8 x])) (hgrow : (wr.alloc o).grownBy w1 v.ownBlock) :
    w1.ownsRow B e 1 v' (p ++ [b]).length (bcells (p ++ [b])) ∧ Below B w w1 := by
  subst hx
  refine ⟨by rw [bcells_snoc]; simpa using hown', (hnx.alloc hB o).grown hgrow (by simp; omega) (fun j hj => (hown.lt j hj).1)⟩

/-- 'string(b)' of a row of bytes that is owned. -/
theorem own_string {P : Program} {B : Nat} {src dst e : TypeId} {v : Value} {l : List UInt8} {w : World} (hs : P.underlying src = some (.slice e)) (he : P.underlying e = some (.int .u8)) (hd : P.underlying dst = some .string)
    (hown : w.ownsRow B e 1 v l.length (bcells l)) : l ≠ [] → (convert src dst v).run P w = .ok (.string ⟨l.toArray⟩) w := by
  intro hne
  have hw := hown
  obtain ⟨_, h | ⟨g, cap, cur, rfl, _, _, _, _, _, _⟩⟩ := hown
  · exact absurd (List.length_eq_zero_iff.1 h.2) hne
  · refine run_convert_bytes_back w src dst e ⟨g, 0, none⟩ cap l hs he hd ?_
    intro j hj
    exact hw.cells rfl j _ (by simp [bcells, List.getElem?_map, List.getElem?_eq_getElem hj])
end Go.Proofs.YtlpkalfbcphkmaaGreat

/-
  Contracts of appendNumber, Number (package pack) and of the reference's Number: the bytes that are written are the digits of the folded number.
-/
namespace Go.Proofs.YtlpkalfbcphkmaaGreat
open Go.ChangeShapes Go.WideShapes Go.ChangeAt Go.RowKit Go.Lib

theorem Tryz.info5 : (Tryz.prog.info? 5).map (fun i => (i.zero, i.size, i.bytes)) = some (some (.int .u8 0), 1, 1) := by kernel_rfl

/-- The row of bytes l is returned, in blocks from B on; below B all is as it was. -/
def Bytes (B : Nat) (l : List UInt8) (w : World) (e : Ending) (w' : World) : Prop :=
  ∃ v, e = .returned v ∧ w'.ownsRow B 5 1 v l.length (bcells l) ∧ Below B w w'

theorem lowDig (k : Nat) : ((UInt8.ofNat k).toNat : Int) = ((k % 256 : Nat) : Int) := by simp

set_option maxHeartbeats 1600000 in
set_option maxRecDepth 1000000 in
theorem appendNumber_any (B : Nat) (v : Value) (l : List UInt8) (n : Int) (w : World) (h1 : -1152921504606846976 ≤ n) (h2 : n ≤ 1152921504606846976)
    (hown0 : w.ownsRow B 5 1 v l.length (bcells l)) (hB : B ≤ w.heap.size) (hl : l.length ≤ 100000000) :
    Calls Tryz.prog 111 #[v, .int .i64 n] w (Bytes B (l ++ digs (fold n)) w) := by
  obtain ⟨i0, hi, hz0, hz1, hz2⟩ := info_parts Tryz.info5
  have hf := fold_le h1 h2
  have h9 := digs_len9 _ hf
  have HO := Lib.hid hown0
  clear hown0
  generalize hg : fold n = u at hf h9
  have HG := Lib.hid hg
  clear hg
  go_enter Tryz.func111, Tryz.ntmps111
  go_wp2_with (go_at_call 117; refine (fold_any _ _ h1 h2).mono ?_; rintro e w' ⟨rfl, rfl⟩; rw [HG.out])
  go_loopw [0, 5] (fun v' x wr => ∃ (k : Nat) (p : List UInt8), k ≤ 2305843009213693952 ∧ x = .int .u64 k ∧ p ++ digs k = l ++ digs u ∧ wr.ownsRow B 5 1 v' p.length (bcells p) ∧ Below B w wr)
    (fun _ x _ => (Go.RowKit.intOf x).toNat)
  case atStart => exact ⟨u, l, hf, rfl, rfl, HO.out, Below.refl _ _⟩
  case round =>
    obtain ⟨k, p, hk, rfl, hp, hown, hnx⟩ := hrel
    have hpl : p.length ≤ l.length + 9 := by
      have := congrArg List.length hp
      simp only [List.length_append] at this
      have := digs_len_pos k
      omega
    have HP := Lib.hid hp
    clear hp
    have hsz := hnx.size
    by_cases hlt : k < 128
    · have hd := digs_lt hlt
      have HD := Lib.hid hd
      clear hd
      go_wp2_with (at_builtin; refine wpList_append_own _ rfl _ _ 41 rfl B 5 i0 (.int .u8 0) 1 1 Tryz.underlying41 hi hz0 hz1 hz2 rfl (by decide) _ _ _ rfl (hown.alloc _) ⟨wr.heap.size, 0, none⟩ 1 1 [.int .u8 (k : Int)] rfl rfl ?c1 ?c2 ?c3 ?c4 ?c5 ?_)
      case c1 =>
        intro j y hj
        match j, hj with
        | 0, hj => simp at hj; subst hj; simp [Addr.add]
      case c2 => intro y hy; simp at hy; subst hy; rfl
      case c3 => unfold maxLen; omega
      case c4 => omega
      case c5 => simp; omega
      intro v' w1 hown' hgrow _
      have R := own_snoc (UInt8.ofNat k) (by simp; omega) (by omega) hown hnx hown' hgrow
      clear hown' hgrow hown
      go_wp2
      go_ret
      rw [← HP.out, HD.out]
      exact ⟨v', rfl, R.1, R.2⟩
    · have hd := digs_ge hlt
      have HD := Lib.hid hd
      clear hd
      go_wp2_with (at_builtin; refine wpList_append_own _ rfl _ _ 41 rfl B 5 i0 (.int .u8 0) 1 1 Tryz.underlying41 hi hz0 hz1 hz2 rfl (by decide) _ _ _ rfl (hown.alloc _) ⟨wr.heap.size, 0, none⟩ 1 1 [.int .u8 ((k : Int) % 128 + 128)] rfl rfl ?d1 ?d2 ?d3 ?d4 ?d5 ?_)
      case d1 =>
        intro j y hj
        match j, hj with
        | 0, hj => simp at hj; subst hj; simp [Addr.add]
      case d2 => intro y hy; simp at hy; subst hy; rfl
      case d3 => unfold maxLen; omega
      case d4 => omega
      case d5 => simp; omega
      intro v' w1 hown' hgrow _
      have R := own_snoc (UInt8.ofNat (k % 128 + 128)) (by simp; omega) (by omega) hown hnx hown' hgrow
      clear hown' hgrow hown
      go_wp2
      go_roundw
      case rel => exact ⟨k / 128, p ++ [UInt8.ofNat (k % 128 + 128)], by omega, by go_num, by rw [List.append_assoc, ← HP.out, HD.out]; rfl, R.1, R.2⟩
      case measure => simp [Go.RowKit.intOf]; omega

/-- A text and an error are returned; below B all is as it was. -/
def TextI (s : ByteArray) (b : Int) (w : World) (e : Ending) (w' : World) : Prop := e = .returned (.tuple #[.string s, .int .i64 b]) ∧ Below w.heap.size w w'
def Text (s : ByteArray) (w : World) (e : Ending) (w' : World) : Prop := e = .returned (.string s) ∧ Below w.heap.size w w'

theorem digs_ne (u : Nat) : digs u ≠ [] := by
  have := digs_len_pos u
  intro h; rw [h] at this; simp at this

set_option maxHeartbeats 400000 in
theorem Number_yes (n : Int) (w : World) (h : mayB n = true) : Calls Tryz.prog 96 #[.int .i64 n] w (TextI ⟨(digs (fold n)).toArray⟩ 0 w) := by
  have HN := Lib.hid h
  obtain ⟨h1, h2⟩ := mayB_t.1 h
  clear h
  go_enter Tryz.func96, Tryz.ntmps96
  go_wp2_with (first
    | (go_at_call 110; refine (mayBe_any _ _).mono ?_; rintro e w' ⟨rfl, rfl⟩; rw [HN.out])
    | (go_at_call 111; refine (appendNumber_any w.heap.size _ [] _ _ h1 h2 (World.ownsRow_nil _ _ _ _) (Nat.le_refl _) (by simp)).mono ?_))
  rintro e w' ⟨v, rfl, hown, hb⟩
  have hs := own_string (dst := 9) Tryz.underlying41 Tryz.underlying5 Tryz.underlying9 hown (digs_ne _)
  go_wp2
  go_ret2
  exact ⟨rfl, hb⟩
theorem Number_no (n : Int) (w : World) (h : mayB n = false) : Calls Tryz.prog 96 #[.int .i64 n] w (TextI ⟨#[]⟩ 1 w) := by
  have HN := Lib.hid h
  clear h
  go_enter Tryz.func96, Tryz.ntmps96
  go_wp2_with (go_at_call 110; refine (mayBe_any _ _).mono ?_; rintro e w' ⟨rfl, rfl⟩; rw [HN.out])
  go_ret2
  exact ⟨rfl, Below.refl _ _⟩

theorem Number_64 (w : World) : Calls Tryz.prog 96 #[.int .i64 64] w (TextI ⟨#[128, 1]⟩ 0 w) := by
  have h := Number_yes 64 w (by decide)
  rwa [show fold 64 = 128 from rfl, digs_ge (by omega), digs_lt (by decide)] at h
theorem Number_m1 (w : World) : Calls Tryz.prog 96 #[.int .i64 (-1)] w (TextI ⟨#[1]⟩ 0 w) := by
  have h := Number_yes (-1) w (by decide)
  rwa [show fold (-1) = 1 from rfl, digs_lt (by decide)] at h

def BoolB (b : Bool) (w : World) (e : Ending) (w' : World) : Prop := e = .returned (.bool b) ∧ Below w.heap.size w w'
theorem below_trans {w w1 w2 : World} (h : Below w.heap.size w w1) (k : Below w1.heap.size w1 w2) : Below w.heap.size w w2 := h.trans (k.mono h.size)

end Go.Proofs.YtlpkalfbcphkmaaGreat
