/-
  Contracts of package net's calls in one form for every input; which ways there are; and what the laws ask of rows, as plain mathematics.
-/
import Derived.Test.YtkfjhfneagjejaaNFew
namespace Go.Proofs.Ytkfjhfneagjejaa.Net
open Go.ChangeShapes Go.WideShapes Go.ChangeAt Go.RowKit Go.Shelf Go.Lib
open Go.Proofs.Ytkfjhfneagjejaa.Queue (Box al dr below_trans ret_bool BoolB)

def postZ (l : List Pc) (t : Int) (p : Pc) : Int := if rightB l t = true ∧ mayB p = true then (if l.length = 64 ∨ t = 1099511627776 then 7 else 0) else 1
def postL (l : List Pc) (t : Int) (p : Pc) : List Pc := if postZ l t p = 0 then post l t p else []
def postT (l : List Pc) (t : Int) (p : Pc) : Int := if postZ l t p = 0 then t + 1 else 0
theorem Post_any {v : Value} {l : List Pc} {w : World} (t : Int) (p : Pc) (h : NRow w v l) : Calls Try.prog 7 #[tv v t, nv p] w (PostE (postL l t p) (postT l t p) (postZ l t p) w) := by
  unfold postL postT
  by_cases hr : rightB l t = true
  · by_cases hm : mayB p = true
    · by_cases hf : l.length = 64
      · have e : postZ l t p = 7 := by unfold postZ; rw [if_pos ⟨hr, hm⟩, if_pos (.inl hf)]
        rw [e, if_neg (by decide), if_neg (by decide)]
        exact Post_full t p h hr hm hf
      · by_cases ht : t = 1099511627776
        · have e : postZ l t p = 7 := by unfold postZ; rw [if_pos ⟨hr, hm⟩, if_pos (.inr ht)]
          rw [e, if_neg (by decide), if_neg (by decide)]
          exact Post_last t p h hr hm hf ht
        · have e : postZ l t p = 0 := by unfold postZ; rw [if_pos ⟨hr, hm⟩, if_neg (by rintro (h | h); exact hf h; exact ht h)]
          rw [e, if_pos rfl, if_pos rfl]
          exact Post_yes t p h hr hm hf ht
    · have e : postZ l t p = 1 := by unfold postZ; rw [if_neg (fun h => hm h.2)]
      rw [e, if_neg (by decide), if_neg (by decide)]
      exact Post_may t p h hr (by simpa using hm)
  · have e : postZ l t p = 1 := by unfold postZ; rw [if_neg (fun h => hr h.1)]
    rw [e, if_neg (by decide), if_neg (by decide)]
    exact Post_bad t p h (by simpa using hr)
theorem post_ways (l : List Pc) (t : Int) (p : Pc) : ((rightB l t = false ∨ mayB p = false) ∧ postZ l t p = 1 ∧ postL l t p = [] ∧ postT l t p = 0) ∨
    (rightB l t = true ∧ mayB p = true ∧ ((l.length = 64 ∨ t = 1099511627776) ∧ postZ l t p = 7 ∧ postL l t p = [] ∧ postT l t p = 0)) ∨
    (rightB l t = true ∧ mayB p = true ∧ l.length < 64 ∧ t < 1099511627776 ∧ postZ l t p = 0 ∧ postL l t p = post l t p ∧ postT l t p = t + 1) := by
  unfold postL postT postZ
  by_cases hr : rightB l t = true
  · by_cases hm : mayB p = true
    · rw [if_pos ⟨hr, hm⟩]
      by_cases hf : l.length = 64 ∨ t = 1099511627776
      · rw [if_pos hf]
        exact .inr (.inl ⟨hr, hm, hf, rfl, rfl, rfl⟩)
      · rw [if_neg hf]
        have h := rightB_t.1 hr
        have h1 := h.1
        have h2 := h.2.1
        exact .inr (.inr ⟨hr, hm, by omega, by omega, rfl, rfl, rfl⟩)
    · rw [if_neg (fun h => hm h.2)]
      exact .inl ⟨.inr (by simpa using hm), rfl, rfl, rfl⟩
  · rw [if_neg (fun h => hr h.1)]
    exact .inl ⟨.inl (by simpa using hr), rfl, rfl, rfl⟩

def placeZ (l : List Pc) (t i : Int) : Int := if rightB l t = true then (if 0 ≤ i ∧ i < l.length then 0 else 8) else 1
def twiceZ (l : List Pc) (t i : Int) : Int := if placeZ l t i = 0 then (if l.length = 64 then 7 else 0) else placeZ l t i
def pcAt (l : List Pc) (i : Int) : Pc := (l[i.toNat]?).getD noP
theorem pcAt_is {l : List Pc} {k : Nat} (h : k < l.length) : pcAt l k = l[k] := by unfold pcAt; rw [Int.toNat_natCast, List.getElem?_eq_getElem h]; rfl
def tookL (l : List Pc) (t i : Int) : List Pc := if placeZ l t i = 0 then rest l i.toNat else []
def tookT (l : List Pc) (t i : Int) : Int := if placeZ l t i = 0 then t else 0
def tookX (l : List Pc) (t i : Int) : Pc := if placeZ l t i = 0 then pcAt l i else noP
def twiceL (l : List Pc) (t i : Int) : List Pc := if twiceZ l t i = 0 then l ++ [pcAt l i] else []
def twiceT (l : List Pc) (t i : Int) : Int := if twiceZ l t i = 0 then t else 0
def lastL (l : List Pc) (t i : Int) : List Pc := if placeZ l t i = 0 then rest l i.toNat ++ [pcAt l i] else []
theorem place_ways (l : List Pc) (t i : Int) : (rightB l t = false ∧ placeZ l t i = 1) ∨ (rightB l t = true ∧ ¬ (0 ≤ i ∧ i < l.length) ∧ placeZ l t i = 8) ∨ (rightB l t = true ∧ ∃ k : Nat, k < l.length ∧ i = k ∧ placeZ l t i = 0) := by
  unfold placeZ
  by_cases hr : rightB l t = true
  · rw [if_pos hr]
    by_cases hi : 0 ≤ i ∧ i < l.length
    · rw [if_pos hi]
      exact .inr (.inr ⟨hr, i.toNat, by omega, by omega, rfl⟩)
    · rw [if_neg hi]
      exact .inr (.inl ⟨hr, hi, rfl⟩)
  · rw [if_neg hr]
    exact .inl ⟨by simpa using hr, rfl⟩
theorem Take_any {v : Value} {l : List Pc} {w : World} (t i : Int) (h : NRow w v l) : Calls Try.prog 8 #[tv v t, .int .i64 i] w (TakeE (tookL l t i) (tookT l t i) (tookX l t i) (placeZ l t i) w) := by
  unfold tookL tookT tookX
  rcases place_ways l t i with ⟨hr, e⟩ | ⟨hr, hi, e⟩ | ⟨hr, k, hk, rfl, e⟩
  · rw [e, if_neg (by decide), if_neg (by decide), if_neg (by decide)]
    exact Take_bad t i h hr
  · rw [e, if_neg (by decide), if_neg (by decide), if_neg (by decide)]
    exact Take_none t i h hr hi
  · rw [e, if_pos rfl, if_pos rfl, if_pos rfl, pcAt_is hk, Int.toNat_natCast]
    exact Take_yes t h hr hk
theorem Last_any {v : Value} {l : List Pc} {w : World} (t i : Int) (h : NRow w v l) : Calls Try.prog 10 #[tv v t, .int .i64 i] w (NetE (lastL l t i) (tookT l t i) (placeZ l t i) w) := by
  unfold lastL tookT
  rcases place_ways l t i with ⟨hr, e⟩ | ⟨hr, hi, e⟩ | ⟨hr, k, hk, rfl, e⟩
  · rw [e, if_neg (by decide), if_neg (by decide)]
    exact Last_bad t i h hr
  · rw [e, if_neg (by decide), if_neg (by decide)]
    exact Last_none t i h hr hi
  · rw [e, if_pos rfl, if_pos rfl, pcAt_is hk, Int.toNat_natCast]
    exact Last_yes t h hr hk
theorem Twice_any {v : Value} {l : List Pc} {w : World} (t i : Int) (h : NRow w v l) : Calls Try.prog 9 #[tv v t, .int .i64 i] w (NetE (twiceL l t i) (twiceT l t i) (twiceZ l t i) w) := by
  unfold twiceL twiceT
  rcases place_ways l t i with ⟨hr, e⟩ | ⟨hr, hi, e⟩ | ⟨hr, k, hk, rfl, e⟩
  · have e2 : twiceZ l t i = 1 := by unfold twiceZ; rw [e, if_neg (by decide)]
    rw [e2, if_neg (by decide), if_neg (by decide)]
    exact Twice_bad t i h hr
  · have e2 : twiceZ l t i = 8 := by unfold twiceZ; rw [e, if_neg (by decide)]
    rw [e2, if_neg (by decide), if_neg (by decide)]
    exact Twice_none t i h hr hi
  · by_cases h64 : l.length = 64
    · have e2 : twiceZ l t k = 7 := by unfold twiceZ; rw [e, if_pos rfl, if_pos h64]
      rw [e2, if_neg (by decide), if_neg (by decide)]
      exact Twice_full t h hr hk h64
    · have e2 : twiceZ l t k = 0 := by unfold twiceZ; rw [e, if_pos rfl, if_neg h64]
      rw [e2, if_pos rfl, if_pos rfl, pcAt_is hk]
      exact Twice_yes t h hr hk h64

theorem last_at (l : List Pc) (q : Pc) : (l ++ [q])[l.length]'(by simp) = q := by simp
theorem last_at2 (l : List Pc) (q : Pc) : (l ++ [q] ++ [q])[l.length]'(by simp) = q := by simp
theorem twice_last (l : List Pc) (q : Pc) : twice (l ++ [q]) l.length (by simp) = l ++ [q] ++ [q] := by unfold twice; rw [last_at]
theorem rest_last2 (l : List Pc) (q : Pc) : rest (l ++ [q] ++ [q]) l.length = l ++ [q] := by unfold rest; simp
end Go.Proofs.Ytkfjhfneagjejaa.Net
