/-
  Which one is popped behind a push: plain mathematics.
-/
import Derived.Test.YtdgenemgegpkdaaQAlive
namespace Go.Proofs.Ytdgenemgegpkdaa.Queue
open Go.ChangeShapes Go.WideShapes Go.ChangeAt Go.RowKit Go.Lib Go.Sort

/-- The first one of what is pushed and what stood. -/
def topOf : List Wt → Wt → Wt
  | [], x => x
  | a :: _, x => if ltB a x then a else x

theorem top_first {l : List Wt} {x : Wt} (h : Hp l.toArray) : (up l.length (l ++ [x]).toArray)[0]! = topOf l x := by
  obtain ⟨h1, h2, h3⟩ := push_holds h x
  rw [show l.toArray.push x = (l ++ [x]).toArray by simp, show l.toArray.size = l.length by simp] at h1 h2 h3
  generalize up l.length (l ++ [x]).toArray = d at h1 h2 h3 ⊢
  have h3' : d.toList.Perm (l ++ [x]) := h3
  have h0 : 0 < d.size := by omega
  have hin : ∀ y ∈ l ++ [x], ltB y d[0]! = false := fun y hy => by
    obtain ⟨i, hi, rfl⟩ := List.mem_iff_getElem.1 (h3'.mem_iff.2 hy)
    have hi' : i < d.size := by simpa using hi
    have := hp_root h1 i hi'
    rwa [getElem!_pos d i hi'] at this
  have hr : d[0]! ∈ l ++ [x] := h3'.mem_iff.1 (by rw [getElem!_pos d 0 h0]; exact List.mem_iff_getElem.2 ⟨0, by simpa using h0, by simp⟩)
  generalize d[0]! = r at *
  cases l with
  | nil =>
    show r = x
    simpa using hr
  | cons a l =>
    have hla : ∀ y ∈ a :: l, ltB y a = false := fun y hy => by
      obtain ⟨i, hi, rfl⟩ := List.mem_iff_getElem.1 hy
      have := hp_root h i (by simpa using hi)
      rw [arr_get (l := a :: l) hi, arr_get (l := a :: l) (k := 0) (by simp)] at this
      exact this
    have hrl : r ∈ a :: l ∨ r = x := by simpa [or_assoc] using hr
    show r = if ltB a x then a else x
    cases hax : ltB a x with
    | true =>
      refine ltB_anti _ _ ?_ (hin a (by simp))
      rcases hrl with hm | rfl
      · exact hla r hm
      · exact ltB_asym hax
    | false =>
      refine ltB_anti _ _ ?_ (hin x (by simp))
      rcases hrl with hm | rfl
      · exact ltB_swo.ntrans _ _ _ (hla r hm) hax
      · exact ltB_swo.irrefl _

theorem top_push {l : List Wt} {x : Wt} (hr : rightB l = true) (hm : mayB x = true) (hl : l.length < 64) : ∃ L M : List Wt, (up l.length (l ++ [x]).toArray).toList = L ∧ rightB L = true ∧ L.length = l.length + 1 ∧
    (down (L.length - 1) 0 (swp L.toArray 0 (L.length - 1))).toList.dropLast = M ∧ M.length = l.length ∧ (down (L.length - 1) 0 (swp L.toArray 0 (L.length - 1)))[L.length - 1]! = topOf l x := by
  unfold rightB at hr
  rw [Bool.and_eq_true, hpB_t] at hr
  obtain ⟨ha, hp⟩ := hr
  have hf := top_first (x := x) hp
  obtain ⟨h1, h2, h3⟩ := push_holds hp x
  rw [show l.toArray.push x = (l ++ [x]).toArray by simp, show l.toArray.size = l.length by simp] at h1 h2 h3
  generalize up l.length (l ++ [x]).toArray = d at h1 h2 h3 hf ⊢
  have h3' : d.toList.Perm (l ++ [x]) := h3
  have hlen : d.toList.length = l.length + 1 := by simpa using h2
  obtain ⟨p1, p2, p3, p4, p5, p6⟩ := pop_holds h1 (by omega)
  rw [h2] at p1 p2 p4
  refine ⟨d.toList, _, rfl, ?_, hlen, rfl, ?_, ?_⟩
  · unfold rightB
    rw [Bool.and_eq_true, hpB_t]
    refine ⟨?_, h1⟩
    unfold allB at ha ⊢
    rw [Bool.and_eq_true, decide_eq_true_eq, List.all_eq_true] at ha ⊢
    refine ⟨by omega, fun y hy => ?_⟩
    have := h3'.mem_iff.1 hy
    rw [List.mem_append, List.mem_singleton] at this
    rcases this with h | rfl
    · exact ha.2 y h
    · exact hm
  · rw [List.length_dropLast, hlen]
    simp only [Array.length_toList, Nat.add_sub_cancel] at p1 ⊢
    rw [p1]
    omega
  · rw [hlen, ← hf]
    exact p2
end Go.Proofs.Ytdgenemgegpkdaa.Queue
