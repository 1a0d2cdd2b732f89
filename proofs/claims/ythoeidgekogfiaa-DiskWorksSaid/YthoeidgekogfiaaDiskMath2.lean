/-
  Plain mathematics of flushes and reads: a flush changes nothing of what is read, and behind it a crash changes nothing; what Get returns, as one function.
-/
import Derived.Test.YthoeidgekogfiaaDiskMath
namespace Go.Proofs.Ythoeidgekogfiaa.Disk
open Go.RowKit Go.Lib

theorem bit_all {j : Nat} (h : j < 64) : bitB 18446744073709551615 j = true := by
  have key : ∀ j : Fin 64, bitB 18446744073709551615 j.1 = true := by decide +kernel
  exact key ⟨j, h⟩
theorem lost_none {kp : Nat} : ∀ {n : Nat}, (∀ j, j < n → bitB kp j = true) → lostO kp n = none
  | 0, _ => rfl
  | n + 1, h => by
    unfold lostO
    rw [if_pos (h n (by omega))]
    exact lost_none fun j hj => h j (by omega)
theorem keep_rd {ls : List ByteArray} {ws : List (Int × ByteArray)} (hP : rightP ls ws) : ∀ n, n ≤ ws.length → ∀ k, k < ls.length → (keepTo 18446744073709551615 ls ws n).getD k ⟨#[]⟩ = rd k (ls.getD k ⟨#[]⟩) (ws.take n)
  | 0, _, k, _ => by simp [keepTo, rd]
  | n + 1, hn, k, hk => by
    have hn' : n < ws.length := by omega
    have h64 := hP.2.2.1
    obtain ⟨y1, y2, y3⟩ := hP.2.2.2.2 n hn'
    have e : keepTo 18446744073709551615 ls ws (n + 1) = (keepTo 18446744073709551615 ls ws n).set (wat ws n).1.toNat (wat ws n).2 := if_pos (bit_all (by omega))
    rw [e, wat_at hn', List.take_succ_eq_append_getElem hn', rd_snoc, List.getD, List.getElem?_set]
    by_cases hc : ws[n].1.toNat = k
    · rw [if_pos hc, if_pos (by rw [keepTo_len]; omega), if_pos (by omega)]
      rfl
    · rw [if_neg hc, if_neg (by omega)]
      exact keep_rd hP n (by omega) k hk
/-- What a flush leaves. -/
def flushL (ls : List ByteArray) (ws : List (Int × ByteArray)) : List ByteArray := crashL 18446744073709551615 ls ws 0
theorem flush_rd {ls : List ByteArray} {ws : List (Int × ByteArray)} (hP : rightP ls ws) {k : Nat} (hk : k < ls.length) : (flushL ls ws).getD k ⟨#[]⟩ = rd k (ls.getD k ⟨#[]⟩) ws := by
  have h64 := hP.2.2.1
  unfold flushL crashL
  rw [lost_none fun j hj => bit_all (by omega)]
  have := keep_rd hP ws.length (Nat.le_refl _) k hk
  rwa [List.take_of_length_le (Nat.le_refl _)] at this
theorem flush_len (ls : List ByteArray) (ws : List (Int × ByteArray)) : (flushL ls ws).length = ls.length := crashL_len _ _ _ _
theorem crash_nil (kp : Nat) (l : List ByteArray) (t : Int) : crashL kp l [] t = l := rfl
theorem crash_right {kp : Nat} {ls : List ByteArray} {ws : List (Int × ByteArray)} {t : Int} (h : rightB ls ws = true) : rightB (crashL kp ls ws t) [] = true := by
  have hP := rightB_t.1 h
  refine rightB_t.2 ⟨by rw [crashL_len]; exact hP.1, by rw [crashL_len]; exact hP.2.1, by simp, fun j hj => ?_, fun j hj => by simp at hj⟩
  have := (crashL_made (kp := kp) hP t (a := j) (by rw [crashL_len] at hj; exact hj)).2
  rwa [getD_eq hj] at this
/-- What Get returns of a disk that may be. -/
def getS (ls : List ByteArray) (ws : List (Int × ByteArray)) (k : Int) : ByteArray := if hasB ls.length k = true then rd k (ls.getD k.toNat ⟨#[]⟩) ws else ⟨#[]⟩
def getE (n : Nat) (k : Int) : Int := if hasB n k = true then 0 else 8
theorem get_flush {ls : List ByteArray} {ws : List (Int × ByteArray)} (h : rightB ls ws = true) (k : Int) : getS (flushL ls ws) [] k = getS ls ws k ∧ getE (flushL ls ws).length k = getE ls.length k := by
  unfold getS getE
  rw [flush_len]
  refine ⟨?_, rfl⟩
  by_cases hk : hasB ls.length k = true
  · rw [if_pos hk, if_pos hk]
    have := hasB_t.1 hk
    obtain ⟨n, rfl⟩ : ∃ n : Nat, k = n := ⟨k.toNat, by omega⟩
    rw [Int.toNat_natCast, ← flush_rd (rightB_t.1 h) (by omega)]
    rfl
  · rw [if_neg hk, if_neg hk]
theorem get_other {ls : List ByteArray} {ws : List (Int × ByteArray)} {i k : Int} {d : ByteArray} (h : k ≠ i) : getS ls (ws ++ [(i, d)]) k = getS ls ws k := by
  have e : rd k (ls.getD k.toNat ⟨#[]⟩) (ws ++ [(i, d)]) = rd k (ls.getD k.toNat ⟨#[]⟩) ws := by rw [rd_snoc, if_neg (fun e => h e.symm)]
  unfold getS
  rw [e]
theorem get_same {ls : List ByteArray} {ws : List (Int × ByteArray)} {i : Int} {d : ByteArray} (h : hasB ls.length i = true) : getS ls (ws ++ [(i, d)]) i = d := by
  unfold getS
  rw [if_pos h, rd_snoc, if_pos rfl]
theorem put_right {ls : List ByteArray} {ws : List (Int × ByteArray)} {i : Int} {d : ByteArray} (h : rightB ls ws = true) (hi : hasB ls.length i = true) (hd : d.size = 64) (hw : ws.length < 64) : rightB ls (ws ++ [(i, d)]) = true := by
  have hP := rightB_t.1 h
  have hi' := hasB_t.1 hi
  refine rightB_t.2 ⟨hP.1, hP.2.1, by rw [List.length_append]; simp; omega, hP.2.2.2.1, fun j hj => ?_⟩
  by_cases c : j < ws.length
  · rw [List.getElem_append_left c]; exact hP.2.2.2.2 j c
  · rw [List.getElem_append_right (by omega)]
    simp
    exact ⟨hi'.1, hi'.2, hd⟩

theorem Get_any {vS vW : Value} {ls : List ByteArray} {ws : List (Int × ByteArray)} {w : World} (hS : SRow w vS ls) (hW : WRow w vW ws) (hb : rightB ls ws = true) (k : Int) : Calls Try.prog 9 #[.agg #[vS, vW], .int .i64 k] w (TextE (getS ls ws k) (getE ls.length k) w) := by
  have hP := rightB_t.1 hb
  have hr : smallP ls ws := ⟨by have := hP.2.1; omega, by have := hP.2.2.1; omega, fun j h => by rw [hP.2.2.2.1 j h]; omega, fun j h => by rw [(hP.2.2.2.2 j h).2.2]; omega⟩
  unfold getS getE
  by_cases hk : hasB ls.length k = true
  · rw [if_pos hk, if_pos hk]
    have := hasB_t.1 hk
    obtain ⟨n, rfl⟩ : ∃ n : Nat, k = n := ⟨k.toNat, by omega⟩
    have hn : n < ls.length := by omega
    rw [Int.toNat_natCast, getD_eq hn]
    exact Get_yes hS hW hr hb n hn
  · rw [if_neg hk, if_neg hk]
    exact Get_none hS hW hr hb k (by simpa using hk)
end Go.Proofs.Ythoeidgekogfiaa.Disk
