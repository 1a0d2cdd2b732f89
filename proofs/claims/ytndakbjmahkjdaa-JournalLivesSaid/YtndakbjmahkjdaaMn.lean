/-
  Joined: JCrash, JBox, JNum.
-/
import Derived.Test.YtndakbjmahkjdaaMm
import Derived.Test.YtndakbjmahkjdaaMd
import Derived.Deep.RegionLaw
import Derived.Laws.Bits64b
import Derived.Deep.CutRange
import Derived.Deep.RegionWith
import Derived.Deep.MidRow
import Derived.Deep.WholeRow
import Derived.Laws.ResultCell
import Derived.Laws.CopyOwn

/-
  Plain mathematics of crashes within sealing: the disk opens with the records as they were, or, if it was late, perhaps as they would be. No program in it.
-/
namespace Go.Proofs.Ytndakbjmahkjdaa.Disk.Jn
open Go.Lib
open Go.Proofs.Ytndakbjmahkjdaa.Frame (frm frms frms_append frms_snoc frm_pos frm_len size_list mk_list mk_size)

/-- What is sealed, of a disk that opens, and the records behind that. -/
structure Seals (ls : List ByteArray) (t : Told) (half fr : Nat) (bs : List UInt8) (l' : List ByteArray) : Prop where
  fits : Fits ls.length half fr bs.length
  short : bs.length ≤ 3900
  lt : t.seals < 1099511627776
  apart : half = t.half → t.used ≤ fr
  bytes : (bytesOf ls half).take fr ++ bs = frms l'
  sizes : ∀ d ∈ l', d.size ≤ 4096
/-- The head that tells it. -/
def nextT (t : Told) (half fr len : Nat) : Told := ⟨half, t.seals + 1, fr + len⟩

theorem byt_some {s : ByteArray} {i : Nat} (h : i < s.size) : s.data.toList[i]? = some (UInt8.ofNat (byt s i)) := by
  unfold byt
  rw [List.getD, List.getElem?_eq_getElem (by rw [size_list]; exact h)]
  simp
theorem byt_same {s s' : ByteArray} (h : s.size = 64) (h' : s'.size = 64) {i : Nat} (hi : i < 64) (e : byt s i = byt s' i) : s.data.toList[i]? = s'.data.toList[i]? := by
  rw [byt_some (by omega), byt_some (by omega), e]
theorem same_of {s s' : ByteArray} (h : s.size = 64) (h' : s'.size = 64) (e : ∀ i, i < 64 → s.data.toList[i]? = s'.data.toList[i]?) : s = s' := by
  apply same_bytes
  apply List.ext_getElem?
  intro i
  by_cases hi : i < 64
  · exact e i hi
  · rw [List.getElem?_eq_none (by rw [size_list]; omega), List.getElem?_eq_none (by rw [size_list]; omega)]
theorem secs_get {ls : List ByteArray} (h : Secs64 ls) {a : Nat} (ha : a < ls.length) : (ls.getD a ⟨#[]⟩).size = 64 := by
  rw [getD_eq ha]; exact h _ (List.getElem_mem _)
/-- A sector of no writes. -/
theorem crash_other {kp : Nat} {ls : List ByteArray} {ws : List (Int × ByteArray)} {t : Int} (h : rightB ls ws = true) {a : Nat} (ha : a < ls.length) (hno : ∀ y ∈ ws, y.1 ≠ a) : (crashL kp ls ws t).getD a ⟨#[]⟩ = ls.getD a ⟨#[]⟩ := by
  obtain ⟨hm, hz⟩ := crashL_made (kp := kp) (rightB_t.1 h) t ha
  refine same_of hz (secs_get (secs_of h) ha) fun i hi => byt_same hz (secs_get (secs_of h) ha) hi ?_
  rcases hm i hi with e | ⟨j, hj, e, _⟩
  · exact e
  · exact absurd e (hno _ (List.getElem_mem hj))
/-- The halves lie apart. -/
theorem halves {n h1 h2 i j : Nat} (h : h1 ≤ 1) (h' : h2 ≤ 1) (hi : i < hsN n) (hj : j < hsN n) (e : begN n h1 + i = begN n h2 + j) : h1 = h2 ∧ i = j := by
  unfold begN at e
  rcases (by omega : h1 = 0 ∨ h1 = 1) with rfl | rfl <;> rcases (by omega : h2 = 0 ∨ h2 = 1) with rfl | rfl <;> omega
/-- Bytes of the records are not touched. -/
theorem lay_keeps {ls : List ByteArray} {t : Told} {l : List ByteArray} {half fr : Nat} {bs : List UInt8} {l' : List ByteArray} (h : Opens ls t l) (s : Seals ls t half fr bs l') {j : Nat} (hj : j < t.used) {y : Int × ByteArray}
    (hy : y ∈ firstW ls ((t.seals + 1) % 2) half fr bs) (e : y.1 = ((begN ls.length t.half + j / 64 : Nat) : Int)) : y.2.data.toList[j % 64]? = secB ls (begN ls.length t.half + j / 64) (j % 64) := by
  have hm := opens_may h
  have hj2 : j / 64 < hsN ls.length := by have := hm.2.2.2; unfold roomN at this; omega
  rcases List.mem_append.1 hy with hy | hy
  · obtain ⟨i, hi, e1, e2⟩ := layW_mem hy
    rw [e1] at e
    have hin := s.fits.in hi
    obtain ⟨rfl, e3⟩ := halves s.fits.h1 hm.1 hin hj2 (by omega : begN ls.length half + (fr / 64 + i) = begN ls.length t.half + j / 64)
    have ha := hs_le h.2.1 hm.1
    have h4 := s.apart rfl
    rw [e2, Nat.add_assoc, e3, secD_at (secs_get (secs_of h.1) (by omega)) fr bs (by omega), if_neg (by omega)]
    rfl
  · have := begN_two ls.length t.half
    simp at hy
    subst hy
    simp at e
    omega
theorem torn_zero {s d : ByteArray} {k : Nat} (hk : 0 < k) (hd : d.data.toList[0]? = some 0) : (torn s d k).data.toList[0]? = some 0 := by
  unfold torn
  rw [mk_list, over_at]
  have hl : 0 < d.data.toList.length := by
    apply Classical.byContradiction
    intro hc
    rw [List.getElem?_eq_none (by omega)] at hd
    cases hd
  rw [if_pos (by rw [List.length_take]; omega), List.getElem?_take, if_pos hk]
  exact hd
theorem zeros_first : zeros.data.toList[0]? = some 0 := by decide +kernel

/-- Ahead of the first flush: the records as they were. -/
theorem early {ls : List ByteArray} {t : Told} {l : List ByteArray} {half fr : Nat} {bs : List UInt8} {l' : List ByteArray} (h : Opens ls t l) (s : Seals ls t half fr bs l') (kp : Nat) (tn : Int) :
    Opens (crashL kp ls (firstW ls ((t.seals + 1) % 2) half fr bs) tn) t l := by
  have hR := first_right h.1 s.fits s.short (q := (t.seals + 1) % 2) (by omega)
  have hm := opens_may h
  have h8 := h.2.1
  refine opens_keep h (crash_right hR) (crashL_len _ _ _ _) ?_ ?_ ?_
  · refine crash_other hR (by omega) fun y hy => ?_
    rcases List.mem_append.1 hy with hy | hy
    · obtain ⟨i, hi, e1, _⟩ := layW_mem hy
      have := begN_two ls.length half
      omega
    · simp at hy; subst hy; simp; omega
  · intro q hq hne
    obtain rfl : q = (t.seals + 1) % 2 := by omega
    rcases crash_last (kp := kp) (t := tn) hR (fun y hy => by
      obtain ⟨i, hi, e1, _⟩ := layW_mem hy
      have := begN_two ls.length half
      omega) with e | e | ⟨h1, h2, e⟩
    · right; intro t'; exact head_not (by rw [firstW, e]; exact zeros_first) t'
    · left; exact e
    · right; intro t'; exact head_not (by rw [firstW, e]; exact torn_zero (by omega) zeros_first) t'
  · intro j hj
    have hj2 : j / 64 < hsN ls.length := by have := hm.2.2.2; unfold roomN at this; omega
    have ha := hs_le h8 hm.1
    obtain ⟨hmd, hz⟩ := crashL_made (kp := kp) (rightB_t.1 hR) tn (a := begN ls.length t.half + j / 64) (by omega)
    rcases hmd (j % 64) (by omega) with e | ⟨i, hi, e1, e2⟩
    · exact byt_same hz (secs_get (secs_of h.1) (by omega)) (by omega) e
    · have h3 := lay_keeps h s hj (List.getElem_mem hi) e1
      rw [← h3]
      exact byt_same hz ((rightB_t.1 hR).2.2.2.2 i hi).2.2 (by omega) e2.symm

/-- The disk behind the first flush. -/
def flushed (ls : List ByteArray) (t : Told) (half fr : Nat) (bs : List UInt8) : List ByteArray := flushL ls (firstW ls ((t.seals + 1) % 2) half fr bs)
theorem flushed_get {ls : List ByteArray} {t : Told} {half fr : Nat} {bs : List UInt8} (hR : rightB ls (firstW ls ((t.seals + 1) % 2) half fr bs) = true) {a : Nat} (ha : a < ls.length) : (flushed ls t half fr bs).getD a ⟨#[]⟩ =
    if a = (t.seals + 1) % 2 then zeros else if begN ls.length half + fr / 64 ≤ a ∧ a < begN ls.length half + fr / 64 + layK fr bs.length then secD (ls.getD a ⟨#[]⟩) fr bs (a - begN ls.length half) else ls.getD a ⟨#[]⟩ := by
  unfold flushed
  rw [flush_rd (rightB_t.1 hR) ha, firstW, rd_snoc, layW_rd]
  by_cases c : a = (t.seals + 1) % 2
  · rw [if_pos (by rw [c]), if_pos c]
  · rw [if_neg (by dsimp only; omega), if_neg c]
theorem flushed_right {ls : List ByteArray} {t : Told} {half fr : Nat} {bs : List UInt8} (hR : rightB ls (firstW ls ((t.seals + 1) % 2) half fr bs) = true) : rightB (flushed ls t half fr bs) [] = true := crash_right hR
theorem flushed_len (ls : List ByteArray) (t : Told) (half fr : Nat) (bs : List UInt8) : (flushed ls t half fr bs).length = ls.length := flush_len _ _
theorem flushed_opens {ls : List ByteArray} {t : Told} {l : List ByteArray} {half fr : Nat} {bs : List UInt8} {l' : List ByteArray} (h : Opens ls t l) (s : Seals ls t half fr bs l') : Opens (flushed ls t half fr bs) t l := early h s _ _
/-- What the half holds behind the first flush. -/
theorem flushed_bytes {ls : List ByteArray} {t : Told} {l : List ByteArray} {half fr : Nat} {bs : List UInt8} {l' : List ByteArray} (h : Opens ls t l) (s : Seals ls t half fr bs l') : (bytesOf (flushed ls t half fr bs) half).take (fr + bs.length) = frms l' := by
  have hR := first_right h.1 s.fits s.short (q := (t.seals + 1) % 2) (by omega)
  have h8 := h.2.1
  have hroom := s.fits.room
  have ha := hs_le h8 s.fits.h1
  have hlen := bytesOf_len (secs_of h.1) h8 s.fits.h1
  rw [← s.bytes]
  apply List.ext_getElem?
  intro j
  rw [List.getElem?_take]
  by_cases hj : j < fr + bs.length
  · have hj2 : j / 64 < hsN ls.length := by unfold roomN at hroom; omega
    have hb2 := begN_two ls.length half
    have e1 : 64 * (begN ls.length half + j / 64 - begN ls.length half) + j % 64 = j := by omega
    rw [if_pos hj, bytesOf_at (secs_of (flushed_right hR)) (by rw [flushed_len]; omega), flushed_len]
    unfold secB
    rw [flushed_get hR (by omega), if_neg (by omega)]
    by_cases hf : j < fr
    · rw [List.getElem?_append_left (by rw [List.length_take]; omega), List.getElem?_take, if_pos hf, bytesOf_at (secs_of h.1) (by omega)]
      split
      · rw [secD_at (secs_get (secs_of h.1) (by omega)) fr bs (by omega), e1, if_neg (by omega)]
        rfl
      · rfl
    · rw [List.getElem?_append_right (by rw [List.length_take]; omega), List.length_take, if_pos ?_, secD_at (secs_get (secs_of h.1) (by omega)) fr bs (by omega), e1, if_pos (by omega)]
      · congr 1; omega
      · unfold layK
        rw [if_neg (by omega)]
        omega
  · rw [if_neg hj, List.getElem?_eq_none (by rw [List.length_append, List.length_take]; omega)]
theorem next_may {ls : List ByteArray} {t : Told} {half fr : Nat} {bs : List UInt8} {l' : List ByteArray} (s : Seals ls t half fr bs l') : mayP ls.length (nextT t half fr bs.length) :=
  ⟨s.fits.h1, by simp [nextT], by have := s.lt; simp [nextT]; omega, s.fits.room⟩
/-- A disk that has the bytes, and the new head. -/
theorem told {ls ls' : List ByteArray} {t : Told} {l : List ByteArray} {half fr : Nat} {bs : List UInt8} {l' : List ByteArray} (h : Opens ls t l) (s : Seals ls t half fr bs l') (hr : rightB ls' [] = true) (hl : ls'.length = ls.length)
    (ho : ∀ a, a < ls.length → a ≠ (t.seals + 1) % 2 → ls'.getD a ⟨#[]⟩ = (flushed ls t half fr bs).getD a ⟨#[]⟩) (hq : ls'.getD ((t.seals + 1) % 2) ⟨#[]⟩ = headB (nextT t half fr bs.length)) : Opens ls' (nextT t half fr bs.length) l' := by
  have h8 := h.2.1
  have hF := flushed_opens h s
  have hR := first_right h.1 s.fits s.short (q := (t.seals + 1) % 2) (by omega)
  have hroom := s.fits.room
  have ha := hs_le h8 s.fits.h1
  refine opens_new hF hr (by rw [flushed_len, hl]) (ho _ (by omega) (by omega)) (by rw [flushed_len]; exact next_may s) rfl hq ?_ s.sizes
  show (bytesOf ls' half).take (fr + bs.length) = _
  rw [← flushed_bytes h s]
  refine take_same (secs_of (flushed_right hR)) (secs_of hr) (by rw [flushed_len, hl]) (by rw [flushed_len]; exact hroom) fun j hj => ?_
  have hj2 : j / 64 < hsN ls.length := by unfold roomN at hroom; omega
  have hb2 := begN_two ls.length half
  unfold secB
  rw [flushed_len, ho _ (by omega) (by omega)]

/-- The write of the new head. -/
def headW (t : Told) (half fr len : Nat) : List (Int × ByteArray) := [((((t.seals + 1) % 2 : Nat) : Int), headB (nextT t half fr len))]
theorem head_right {ls : List ByteArray} {t : Told} {half fr len : Nat} (hr : rightB ls [] = true) (h8 : 8 ≤ ls.length) : rightB ls (headW t half fr len) = true :=
  put_right (ws := []) hr (hasB_t.2 ⟨by omega, by omega⟩) (headB_size _) (by simp)
theorem torn_head {t : Told} {k : Nat} : torn zeros (headB t) k = ⟨((headL t).take k ++ List.replicate (64 - k) 0).toArray⟩ := by
  have hz : zeros.data.toList = List.replicate 64 0 := by decide +kernel
  unfold torn over
  rw [headB_list, hz, List.drop_replicate, List.length_take, headL_len]
  by_cases hk : k ≤ 64
  · rw [Nat.min_eq_left hk]
  · rw [Nat.min_eq_right (by omega), show 64 - k = 64 - 64 by omega]
/-- Ahead of the second flush: the records as they were, or as they would be. -/
theorem late {ls : List ByteArray} {t : Told} {l : List ByteArray} {half fr : Nat} {bs : List UInt8} {l' : List ByteArray} (h : Opens ls t l) (s : Seals ls t half fr bs l') (kp : Nat) (tn : Int) :
    Opens (crashL kp (flushed ls t half fr bs) (headW t half fr bs.length) tn) t l ∨ Opens (crashL kp (flushed ls t half fr bs) (headW t half fr bs.length) tn) (nextT t half fr bs.length) l' := by
  have h8 := h.2.1
  have hF := flushed_opens h s
  have hR := first_right h.1 s.fits s.short (q := (t.seals + 1) % 2) (by omega)
  have hH : rightB (flushed ls t half fr bs) (headW t half fr bs.length) = true := head_right hF.1 (by rw [flushed_len]; exact h8)
  have hlen : (crashL kp (flushed ls t half fr bs) (headW t half fr bs.length) tn).length = ls.length := by rw [crashL_len, flushed_len]
  have hoth : ∀ a, a < ls.length → a ≠ (t.seals + 1) % 2 → (crashL kp (flushed ls t half fr bs) (headW t half fr bs.length) tn).getD a ⟨#[]⟩ = (flushed ls t half fr bs).getD a ⟨#[]⟩ := fun a ha hne => by
    refine crash_other hH (by rw [flushed_len]; exact ha) fun y hy => ?_
    simp [headW] at hy
    subst hy
    dsimp only
    omega
  have hz : (flushed ls t half fr bs).getD ((t.seals + 1) % 2) ⟨#[]⟩ = zeros := by rw [flushed_get hR (by omega), if_pos rfl]
  have hdone : (crashL kp (flushed ls t half fr bs) (headW t half fr bs.length) tn).getD ((t.seals + 1) % 2) ⟨#[]⟩ = headB (nextT t half fr bs.length) → Opens (crashL kp (flushed ls t half fr bs) (headW t half fr bs.length) tn) (nextT t half fr bs.length) l' :=
    fun e => told h s (crash_right hH) hlen hoth e
  have hkeep : (∀ t', ¬ IsHead ls.length ((t.seals + 1) % 2) ((crashL kp (flushed ls t half fr bs) (headW t half fr bs.length) tn).getD ((t.seals + 1) % 2) ⟨#[]⟩) t') → Opens (crashL kp (flushed ls t half fr bs) (headW t half fr bs.length) tn) t l := by
    intro hno
    refine opens_keep hF (crash_right hH) (by rw [hlen, flushed_len]) (hoth _ (by omega) (by omega)) ?_ ?_
    · intro q hq hne
      obtain rfl : q = (t.seals + 1) % 2 := by omega
      right
      rw [flushed_len]
      exact hno
    · intro j hj
      have hm := opens_may h
      have hj2 : j / 64 < hsN ls.length := by have := hm.2.2.2; unfold roomN at this; omega
      have ha := hs_le h8 hm.1
      have hb2 := begN_two ls.length t.half
      unfold secB
      rw [flushed_len, hoth _ (by omega) (by omega)]
  rcases crash_last (kp := kp) (t := tn) (ws := []) hH (by simp) with e | e | ⟨h1, h2, e⟩
  · right; exact hdone e
  · left
    refine hkeep fun t' => head_not ?_ t'
    change (crashL kp (flushed ls t half fr bs) (headW t half fr bs.length) tn).getD ((t.seals + 1) % 2) ⟨#[]⟩ = _ at e
    rw [e, hz]; exact zeros_first
  · change (crashL kp (flushed ls t half fr bs) (headW t half fr bs.length) tn).getD ((t.seals + 1) % 2) ⟨#[]⟩ = _ at e
    rw [hz, torn_head] at e
    by_cases hc : ∃ t', IsHead ls.length ((t.seals + 1) % 2) ((crashL kp (flushed ls t half fr bs) (headW t half fr bs.length) tn).getD ((t.seals + 1) % 2) ⟨#[]⟩) t'
    · right
      obtain ⟨t', ht⟩ := hc
      rw [e] at ht
      refine hdone ?_
      rw [e, head_torn (by omega) ht]
      rfl
    · left
      exact hkeep fun t' ht => hc ⟨t', ht⟩
/-- The disk behind the second flush. -/
def sealedL (ls : List ByteArray) (t : Told) (half fr : Nat) (bs : List UInt8) : List ByteArray := flushL (flushed ls t half fr bs) (headW t half fr bs.length)
theorem sealed_opens {ls : List ByteArray} {t : Told} {l : List ByteArray} {half fr : Nat} {bs : List UInt8} {l' : List ByteArray} (h : Opens ls t l) (s : Seals ls t half fr bs l') : Opens (sealedL ls t half fr bs) (nextT t half fr bs.length) l' := by
  have h8 := h.2.1
  have hF := flushed_opens h s
  have hH : rightB (flushed ls t half fr bs) (headW t half fr bs.length) = true := head_right hF.1 (by rw [flushed_len]; exact h8)
  refine told h s (by unfold sealedL flushL; exact crash_right hH) (by unfold sealedL; rw [flush_len, flushed_len]) (fun a ha hne => ?_) ?_
  · unfold sealedL
    rw [flush_rd (rightB_t.1 hH) (by rw [flushed_len]; exact ha)]
    refine rd_none fun y hy => ?_
    simp [headW] at hy
    subst hy
    dsimp only
    omega
  · unfold sealedL
    rw [flush_rd (rightB_t.1 hH) (by rw [flushed_len]; omega)]
    simp [headW, rd]
/-- What Commit seals, and Compact. -/
theorem commit_seals {ls : List ByteArray} {t : Told} {l g : List ByteArray} (h : Opens ls t l) (hg : ∀ d ∈ g, d.size ≤ 4096) (h3 : (frms g).length ≤ 3000) (hroom : t.used + (frms g).length ≤ roomN ls.length) (hlt : t.seals < 1099511627776) :
    Seals ls t t.half t.used (frms g) (l ++ g) :=
  ⟨⟨h.2.1, (opens_may h).1, hroom⟩, by omega, hlt, fun _ => Nat.le_refl _, by rw [h.2.2.2.1, frms_append], fun d hd => by
    rcases List.mem_append.1 hd with hd | hd
    · exact h.2.2.2.2 d hd
    · exact hg d hd⟩
theorem compact_seals {ls : List ByteArray} {t : Told} {l : List ByteArray} {d : ByteArray} (h : Opens ls t l) (hd : d.size ≤ 3000) (hroom : (frm d).length ≤ roomN ls.length) (hlt : t.seals < 1099511627776) :
    Seals ls t (1 - t.half) 0 (frm d) [d] :=
  ⟨⟨h.2.1, by omega, by omega⟩, by have := Go.Proofs.Ytndakbjmahkjdaa.Frame.frm_le d (by omega); omega, hlt, fun e => by have := (opens_may h).1; omega, by simp [frms], fun x hx => by simp at hx; subst hx; omega⟩
end Go.Proofs.Ytndakbjmahkjdaa.Disk.Jn

/-
  Blocks of some cells; small contracts of package journal.
-/
namespace Go.Proofs.Ytndakbjmahkjdaa.Disk.Jn
open Go.ChangeShapes Go.WideShapes Go.ChangeAt Go.RowKit Go.Lib

/-- A block of some cells. -/
def Box (b : Nat) (vs : List Value) (w : World) : Prop := b < w.heap.size ∧ ∀ j v, vs[j]? = some v → w.cell? ⟨b, j, none⟩ = some v ∧ w.frozen? ⟨b, j, none⟩ = false
theorem Box.below {b : Nat} {vs : List Value} {w w' : World} (h : Box b vs w) (hb : Below w.heap.size w w') : Box b vs w' :=
  ⟨Nat.lt_of_lt_of_le h.1 hb.size, fun j v hj => ⟨(hb.cell (p := ⟨b, j, none⟩) h.1).trans (h.2 j v hj).1, (hb.frozen (p := ⟨b, j, none⟩) h.1).trans (h.2 j v hj).2⟩⟩
theorem Box.made (w : World) (vs : List Value) (T : TypeId) : Box w.heap.size vs (w.alloc (.cells vs.toArray T)) := by
  refine ⟨by simp, fun j v hj => ?_⟩
  have := (List.getElem?_eq_some_iff.1 hj).1
  constructor
  · simpa using hj
  · simp
theorem Box.one {b : Nat} {vs : List Value} {w : World} (h : Box b vs w) {i : Nat} (hi : i < vs.length) (u : Value) : Box b (vs.set i u) (w.setCell ⟨b, i, none⟩ u) := by
  refine ⟨by simpa using h.1, fun j v hj => ?_⟩
  rw [List.getElem?_set] at hj
  by_cases c : i = j
  · subst c
    rw [if_pos rfl, if_pos hi] at hj
    cases hj
    obtain ⟨h1, h2⟩ := h.2 i _ (List.getElem?_eq_getElem hi)
    exact ⟨World.cell?_setCell_same _ _ _ h1, by rw [World.frozen?_setCell]; exact h2⟩
  · rw [if_neg c] at hj
    obtain ⟨h1, h2⟩ := h.2 j v hj
    have ne : (⟨b, i, none⟩ : Addr) ≠ ⟨b, j, none⟩ := by intro e; cases e; exact c rfl
    exact ⟨by rw [World.cell?_setCell_other _ _ _ _ ne]; exact h1, by rw [World.frozen?_setCell]; exact h2⟩
theorem Box.other {b g i : Nat} {vs : List Value} {w : World} (h : Box b vs w) (hne : b ≠ g) (u : Value) : Box b vs (w.setCell ⟨g, i, none⟩ u) := by
  refine ⟨by simpa using h.1, fun j v hj => ?_⟩
  obtain ⟨h1, h2⟩ := h.2 j v hj
  have ne : (⟨g, i, none⟩ : Addr) ≠ ⟨b, j, none⟩ := by intro e; cases e; exact hne rfl
  exact ⟨by rw [World.cell?_setCell_other _ _ _ _ ne]; exact h1, by rw [World.frozen?_setCell]; exact h2⟩
theorem Box.st2 {b : Nat} {c0 c1 : Value} {w : World} (h : Box b [c0, c1] w) (u0 u1 : Value) : Box b [u0, u1] ((w.setCell ⟨b, 0, none⟩ u0).setCell ⟨b, 1, none⟩ u1) :=
  (h.one (i := 0) (by simp) u0).one (i := 1) (by simp) u1
theorem Box.st3 {b : Nat} {c0 c1 c2 : Value} {w : World} (h : Box b [c0, c1, c2] w) (u0 u1 u2 : Value) : Box b [u0, u1, u2] (((w.setCell ⟨b, 0, none⟩ u0).setCell ⟨b, 1, none⟩ u1).setCell ⟨b, 2, none⟩ u2) :=
  ((h.one (i := 0) (by simp) u0).one (i := 1) (by simp) u1).one (i := 2) (by simp) u2
theorem Box.st7 {b : Nat} {c0 c1 c2 c3 c4 c5 c6 : Value} {w : World} (h : Box b [c0, c1, c2, c3, c4, c5, c6] w) (u0 u1 u2 u3 u4 u5 u6 : Value) : Box b [u0, u1, u2, u3, u4, u5, u6]
    (((((((w.setCell ⟨b, 0, none⟩ u0).setCell ⟨b, 1, none⟩ u1).setCell ⟨b, 2, none⟩ u2).setCell ⟨b, 3, none⟩ u3).setCell ⟨b, 4, none⟩ u4).setCell ⟨b, 5, none⟩ u5).setCell ⟨b, 6, none⟩ u6) :=
  ((((((h.one (i := 0) (by simp) u0).one (i := 1) (by simp) u1).one (i := 2) (by simp) u2).one (i := 3) (by simp) u3).one (i := 4) (by simp) u4).one (i := 5) (by simp) u5).one (i := 6) (by simp) u6
theorem Box.c2 {b : Nat} {c0 c1 : Value} {w : World} (h : Box b [c0, c1] w) : w.cell? ⟨b, 0, none⟩ = some c0 ∧ w.cell? ⟨b, 1, none⟩ = some c1 := ⟨(h.2 0 _ rfl).1, (h.2 1 _ rfl).1⟩
theorem Box.f2 {b : Nat} {c0 c1 : Value} {w : World} (h : Box b [c0, c1] w) : w.frozen? ⟨b, 0, none⟩ = false ∧ w.frozen? ⟨b, 1, none⟩ = false := ⟨(h.2 0 _ rfl).2, (h.2 1 _ rfl).2⟩
theorem Box.c3 {b : Nat} {c0 c1 c2 : Value} {w : World} (h : Box b [c0, c1, c2] w) : w.cell? ⟨b, 0, none⟩ = some c0 ∧ w.cell? ⟨b, 1, none⟩ = some c1 ∧ w.cell? ⟨b, 2, none⟩ = some c2 := ⟨(h.2 0 _ rfl).1, (h.2 1 _ rfl).1, (h.2 2 _ rfl).1⟩
theorem Box.f3 {b : Nat} {c0 c1 c2 : Value} {w : World} (h : Box b [c0, c1, c2] w) : w.frozen? ⟨b, 0, none⟩ = false ∧ w.frozen? ⟨b, 1, none⟩ = false ∧ w.frozen? ⟨b, 2, none⟩ = false := ⟨(h.2 0 _ rfl).2, (h.2 1 _ rfl).2, (h.2 2 _ rfl).2⟩
theorem Box.c7 {b : Nat} {c0 c1 c2 c3 c4 c5 c6 : Value} {w : World} (h : Box b [c0, c1, c2, c3, c4, c5, c6] w) : w.cell? ⟨b, 0, none⟩ = some c0 ∧ w.cell? ⟨b, 1, none⟩ = some c1 ∧ w.cell? ⟨b, 2, none⟩ = some c2 ∧ w.cell? ⟨b, 3, none⟩ = some c3 ∧ w.cell? ⟨b, 4, none⟩ = some c4 ∧ w.cell? ⟨b, 5, none⟩ = some c5 ∧ w.cell? ⟨b, 6, none⟩ = some c6 :=
  ⟨(h.2 0 _ rfl).1, (h.2 1 _ rfl).1, (h.2 2 _ rfl).1, (h.2 3 _ rfl).1, (h.2 4 _ rfl).1, (h.2 5 _ rfl).1, (h.2 6 _ rfl).1⟩
theorem Box.f7 {b : Nat} {c0 c1 c2 c3 c4 c5 c6 : Value} {w : World} (h : Box b [c0, c1, c2, c3, c4, c5, c6] w) : w.frozen? ⟨b, 0, none⟩ = false ∧ w.frozen? ⟨b, 1, none⟩ = false ∧ w.frozen? ⟨b, 2, none⟩ = false ∧ w.frozen? ⟨b, 3, none⟩ = false ∧ w.frozen? ⟨b, 4, none⟩ = false ∧ w.frozen? ⟨b, 5, none⟩ = false ∧ w.frozen? ⟨b, 6, none⟩ = false :=
  ⟨(h.2 0 _ rfl).2, (h.2 1 _ rfl).2, (h.2 2 _ rfl).2, (h.2 3 _ rfl).2, (h.2 4 _ rfl).2, (h.2 5 _ rfl).2, (h.2 6 _ rfl).2⟩
theorem below_st {w W : World} {b : Nat} (h : Below w.heap.size w W) (hb : w.heap.size ≤ b) (i : Nat) (u : Value) : Below w.heap.size w (W.setCell ⟨b, i, none⟩ u) := h.setCell (p := ⟨b, i, none⟩) hb _
theorem below_st2 {w W : World} {b : Nat} (h : Below w.heap.size w W) (hb : w.heap.size ≤ b) (u0 u1 : Value) : Below w.heap.size w ((W.setCell ⟨b, 0, none⟩ u0).setCell ⟨b, 1, none⟩ u1) := below_st (below_st h hb _ _) hb _ _
theorem below_st3 {w W : World} {b : Nat} (h : Below w.heap.size w W) (hb : w.heap.size ≤ b) (u0 u1 u2 : Value) : Below w.heap.size w (((W.setCell ⟨b, 0, none⟩ u0).setCell ⟨b, 1, none⟩ u1).setCell ⟨b, 2, none⟩ u2) := below_st (below_st2 h hb _ _) hb _ _
theorem below_st7 {w W : World} {b : Nat} (h : Below w.heap.size w W) (hb : w.heap.size ≤ b) (u0 u1 u2 u3 u4 u5 u6 : Value) : Below w.heap.size w
    (((((((W.setCell ⟨b, 0, none⟩ u0).setCell ⟨b, 1, none⟩ u1).setCell ⟨b, 2, none⟩ u2).setCell ⟨b, 3, none⟩ u3).setCell ⟨b, 4, none⟩ u4).setCell ⟨b, 5, none⟩ u5).setCell ⟨b, 6, none⟩ u6) :=
  below_st (below_st (below_st (below_st (below_st3 h hb _ _ _) hb _ _) hb _ _) hb _ _) hb _ _

theorem below_dn (w : World) (n : Nat) : Below w.heap.size w (w.drewN n) := ⟨rfl, rfl, rfl, Nat.le_refl _, fun _ _ => rfl⟩
/-- A number is returned; nothing that lay has turned. -/
def IntB (k : Int) (w : World) (e : Ending) (w' : World) : Prop := e = .returned (.int .i64 k) ∧ Below w.heap.size w w'

theorem hs_int (n : Nat) (h : 2 ≤ n) : ((n : Int) - 2) / 2 = (hsN n : Int) := by unfold hsN; omega
set_option maxRecDepth 100000 in
theorem halfSectors_any (a : Option Addr) (n cap : Nat) (vW : Value) (w : World) (h2 : 2 ≤ n) (h : n ≤ 1000) : Calls Try.prog 50 #[.agg #[.slice a n cap, vW]] w (IntB (hsN n) w) := by
  have HS := Lib.hid (hs_int n h2)
  go_enter Try.func50, Try.ntmps50
  go_wp2
  go_ret
  exact ⟨ret_int HS.out, al _ _⟩
set_option maxRecDepth 100000 in
theorem room_any (a : Option Addr) (n cap : Nat) (vW : Value) (w : World) (h2 : 2 ≤ n) (h : n ≤ 1000) : Calls Try.prog 52 #[.agg #[.slice a n cap, vW]] w (IntB (roomN n) w) := by
  have HS := Lib.hid (fun W => halfSectors_any a n cap vW W h2 h)
  have hl : hsN n ≤ 500 := by unfold hsN; omega
  have HR : Hid (64 * (hsN n : Int) = roomN n) := by unfold Hid roomN; omega
  generalize hsN n = q at HS hl HR
  go_enter Try.func52, Try.ntmps52
  go_wp2_with fail
  refine (HS.out _).mono ?_
  rintro e x ⟨rfl, hx⟩
  have HX := Lib.hid (below_trans (al _ _) hx)
  clear hx
  go_wp2
  go_ret
  exact ⟨ret_int HR.out, HX.out⟩
set_option maxRecDepth 100000 in
theorem begin_any (a : Option Addr) (n cap : Nat) (vW : Value) (half : Nat) (w : World) (h2 : 2 ≤ n) (h : n ≤ 1000) (hh : half ≤ 1) : Calls Try.prog 36 #[.agg #[.slice a n cap, vW], .int .i64 half] w (IntB (begN n half) w) := by
  have HS := Lib.hid (fun W => halfSectors_any a n cap vW W h2 h)
  have hl : hsN n ≤ 500 := by unfold hsN; omega
  have HR : Hid (begN n half = 2 + half * hsN n) := rfl
  generalize begN n half = z at HR ⊢
  generalize hsN n = q at HS hl HR
  rcases (by omega : half = 0 ∨ half = 1) with rfl | rfl
  all_goals
    go_enter Try.func36, Try.ntmps36
    go_wp2_with fail
    refine (HS.out _).mono ?_
    rintro e x ⟨rfl, hx⟩
    have HX := Lib.hid (below_trans (al _ _) hx)
    clear hx
    go_wp2
    go_ret
    exact ⟨ret_int (by have := HR.out; omega), HX.out⟩
set_option maxRecDepth 100000 in
theorem place_any (h s u : Int) (n : Nat) (hs : s = n) (w : World) : Calls Try.prog 34 #[.agg #[.int .i64 h, .int .i64 s, .int .i64 u]] w (IntB ((n % 2 : Nat) : Int) w) := by
  subst hs
  go_enter Try.func34, Try.ntmps34
  go_wp2
  go_ret
  exact ⟨ret_int (by omega), al _ _⟩
end Go.Proofs.Ytndakbjmahkjdaa.Disk.Jn

/-
  Contracts of readNumber and writeNumber (package journal): numbers as bytes, the lowest first.
-/
namespace Go.Proofs.Ytndakbjmahkjdaa.Disk.Jn
open Go.ChangeShapes Go.WideShapes Go.ChangeAt Go.RowKit Go.Lib

/-- Bytes as cells. -/
def ar (l : List UInt8) : Array Value := (l.map fun x => Value.int .u8 (x.toNat : Int)).toArray
theorem ar_size (l : List UInt8) : (ar l).size = l.length := by simp [ar]
theorem ar_at (l : List UInt8) (j : Nat) : (ar l)[j]? = (l[j]?).map fun x => Value.int .u8 (x.toNat : Int) := by simp [ar]
theorem ar_one (l : List UInt8) : (ar l).all (·.oneCell') = true := by
  rw [Array.all_eq_true]
  intro i h
  simp only [ar, List.getElem_toArray, List.getElem_map]
  rfl
theorem ar_set (l : List UInt8) (i : Nat) (b : UInt8) {x : Int} (hx : x = (b.toNat : Int)) : (ar l).setIfInBounds i (.int .u8 x) = ar (l.set i b) := by
  subst hx
  simp [ar, List.map_set]
/-- Block g is an array of bytes. -/
def Row (g : Nat) (l : List UInt8) (w : World) : Prop := w.heap[g]? = some (.cells (ar l) 70 (0, 0))
theorem Row.lt {g : Nat} {l : List UInt8} {w : World} (h : Row g l w) : g < w.heap.size := (Array.getElem?_eq_some_iff.1 h).1
theorem Row.cell {g : Nat} {l : List UInt8} {w : World} (h : Row g l w) {j : Nat} (hj : j < l.length) : w.cell? ⟨g, j, none⟩ = some (.int .u8 (l[j].toNat : Int)) := by
  rw [cell_of_row w g j (ar l) _ _ h, ar_at, List.getElem?_eq_getElem hj]; rfl
theorem Row.free {g : Nat} {l : List UInt8} {w : World} (h : Row g l w) (j : Nat) : w.frozen? ⟨g, j, none⟩ = false := frozen_of_row w g j (ar l) _ h
theorem Row.below {g : Nat} {l : List UInt8} {w w' : World} (h : Row g l w) (hb : Below w.heap.size w w') : Row g l w' := (hb.block g h.lt).trans h
theorem Row.set {g : Nat} {l : List UInt8} {w : World} (h : Row g l w) (i : Nat) (b : UInt8) {x : Int} (hx : x = (b.toNat : Int)) : Row g (l.set i b) (w.setCell ⟨g, i, none⟩ (.int .u8 x)) := by
  unfold Row
  rw [heap_setCell_same w g i _ _ _ h, ar_set l i b hx]

theorem pow8 (q : Nat) : (256 : Nat) ^ q = 2 ^ (8 * q) := by rw [show (256 : Nat) = 2 ^ 8 from rfl, ← Nat.pow_mul]
theorem ofInt_wrap {x : Nat} (h : x < 18446744073709551616) : (BitVec.ofInt 64 (wrap64 (x : Int))).toNat = x := by
  rw [BitVec.toNat_ofInt]
  unfold wrap64
  omega
theorem or_i64 {m b q : Nat} (hm : m < 256 ^ q) (hb : b < 256) (hq : q ≤ 7) : bits BinOp.or IntKind.i64 (wrap64 (m : Int)) (wrap64 ((b : Int) * 2 ^ (8 * q))) = wrap64 ((m + 256 ^ q * b : Nat) : Int) := by
  have hp : (256 : Nat) ^ q ≤ 256 ^ 7 := Nat.pow_le_pow_right (by omega) hq
  have hB : 256 ^ q * b ≤ 256 ^ 7 * 255 := Nat.mul_le_mul hp (by omega)
  have e1 : (b : Int) * 2 ^ (8 * q) = ((256 ^ q * b : Nat) : Int) := by
    rw [pow8]; simp [Int.mul_comm]
  rw [e1]
  have h2 : m < 2 ^ (8 * q) := by rw [← pow8]; exact hm
  have h3 : m ||| 256 ^ q * b = m + 256 ^ q * b := by
    rw [Nat.or_comm, pow8, ← Nat.two_pow_add_eq_or_of_lt h2, Nat.add_comm]
  show IntKind.i64.wrap ((BitVec.ofInt 64 _ ||| BitVec.ofInt 64 _).toNat : Int) = _
  rw [BitVec.toNat_or, ofInt_wrap (by omega), ofInt_wrap (by omega), h3, IntKind.wrap_i64]
  unfold wrap64
  omega
/-- k bytes from place o on. -/
def cut (l : List UInt8) (o k : Nat) : List UInt8 := (l.drop o).take k
theorem cut_len {l : List UInt8} {o k : Nat} (h : o + k ≤ l.length) : (cut l o k).length = k := by unfold cut; rw [List.length_take, List.length_drop]; omega
theorem cut_succ {l : List UInt8} {o q : Nat} (h : o + q < l.length) : cut l o (q + 1) = cut l o q ++ [l[o + q]] := by
  unfold cut
  rw [List.take_succ_eq_append_getElem (by rw [List.length_drop]; omega)]
  simp
theorem num_cut_succ {l : List UInt8} {o q : Nat} (h : o + q < l.length) : num (cut l o (q + 1)) = num (cut l o q) + 256 ^ q * l[o + q].toNat := by
  rw [cut_succ h, num_snoc, cut_len (by omega)]

set_option maxRecDepth 100000 in
theorem readNumber_any {g o k cap : Nat} {l : List UInt8} {w : World} (h : Row g l w) (hk : k ≤ 8) (hl : o + k ≤ l.length) : Calls Try.prog 76 #[.slice (some ⟨g, o, none⟩) k cap] w fun e w' => e = .returned (.int .i64 (wrap64 (num (cut l o k) : Nat))) ∧ w = w' := by
  have H := Lib.hid h
  go_enter Try.func76, Try.ntmps76
  go_wp2
  go_loop [3, 8] (fun s i => ∃ (q : Nat) (n : Int), q ≤ k ∧ i = .int .i64 q ∧ s = .int .i64 n ∧ n = wrap64 (num (cut l o q) : Nat)) (fun _ i => k - (RowKit.intOf i).toNat)
  case atStart => exact ⟨0, 0, Nat.zero_le _, rfl, rfl, by simp [cut, num, wrap64]⟩
  case round =>
    obtain ⟨q, n, hq, rfl, rfl, hn⟩ := hrel
    have HN := Lib.hid hn
    clear hn
    by_cases hlt : q < k
    · have hc := H.out.cell (j := o + q) (by omega)
      have HS := Lib.hid (num_cut_succ (l := l) (o := o) (q := q) (by omega))
      have HL : Hid (num (cut l o q) < 256 ^ q) := by
        have := num_lt (cut l o q)
        rwa [cut_len (by omega)] at this
      have hb := l[o + q].toNat_lt
      generalize l[o + q] = b at hc hb HS
      have hb0 : (0 : Int) ≤ (b.toNat : Int) := by omega
      have hb1 : (b.toNat : Int) < 256 := by omega
      go_wp2
      go_round
      case rel => exact ⟨q + 1, _, by omega, by go_num, rfl, by rw [HN.out, HS.out]; exact or_i64 HL.out (by omega) (by omega)⟩
      case measure => simp [RowKit.intOf]; omega
    · obtain rfl : q = k := by omega
      go_wp2
      go_ret
      exact ⟨ret_int HN.out, rfl⟩
/-- k bytes over those from place o on. -/
def lay (l : List UInt8) (o : Nat) : List UInt8 → List UInt8
  | [] => l
  | b :: r => lay (l.set o b) (o + 1) r
theorem lay_len (o : Nat) (bs : List UInt8) : ∀ l : List UInt8, (lay l o bs).length = l.length := by
  induction bs generalizing o with
  | nil => intro l; rfl
  | cons b r ih => intro l; rw [lay, ih]; simp
theorem lay_snoc (bs : List UInt8) (b : UInt8) : ∀ (o : Nat) (l : List UInt8), lay l o (bs ++ [b]) = (lay l o bs).set (o + bs.length) b := by
  induction bs with
  | nil => intro o l; rfl
  | cons c r ih => intro o l; rw [List.cons_append, lay, lay, ih, List.length_cons]; congr 1; omega
/-- Bytes of a row turned, nothing else below. -/
def RowB (g : Nat) (l : List UInt8) (w : World) (e : Ending) (w' : World) : Prop := e = .returned (.tuple #[]) ∧ Row g l w' ∧ Below g w w'
theorem low_succ (n k : Nat) : low n (k + 1) = low n k ++ [UInt8.ofNat (n / 256 ^ k)] := by
  induction k generalizing n with
  | zero => simp [low]
  | succ k ih => rw [low, ih, low, Nat.div_div_eq_div_mul, Nat.pow_succ, Nat.mul_comm 256]; rfl

set_option maxRecDepth 100000 in
theorem writeNumber_any {g o k cap : Nat} {l : List UInt8} {w : World} (h : Row g l w) (n : Nat) (_hn : n < 9223372036854775808) (hk : k ≤ 8) (hl : o + k ≤ l.length) : Calls Try.prog 54 #[.slice (some ⟨g, o, none⟩) k cap, .int .i64 n] w (RowB g (lay l o (low n k)) w) := by
  have H := Lib.hid h
  go_enter Try.func54, Try.ntmps54
  go_wp2
  go_loopw [7] (fun i wr => ∃ (q : Nat), q ≤ k ∧ i = .int .i64 q ∧ Row g (lay l o (low n q)) wr ∧ Below g w wr) (fun i _ => k - (RowKit.intOf i).toNat)
  case atStart => exact ⟨0, Nat.zero_le _, rfl, H.out, Below.refl _ _⟩
  case round =>
    obtain ⟨q, hq, rfl, hrow, hbe⟩ := hrel
    have HR := Lib.hid hrow
    have HB := Lib.hid hbe
    clear hrow hbe
    by_cases hlt : q < k
    · have hc := HR.out.cell (j := o + q) (by rw [lay_len]; omega)
      have hf := HR.out.free (o + q)
      have HX : Hid (Row g (lay l o (low n (q + 1))) (wr.setCell ⟨g, o + q, none⟩ (.int .u8 ((n : Int) / 2 ^ (8 * q) % 256)))) := by
        have := HR.out.set (o + q) (UInt8.ofNat (n / 256 ^ q)) (x := (n : Int) / 2 ^ (8 * q) % 256) (by
          rw [show ((n : Int) / 2 ^ (8 * q) % 256) = ((n / 2 ^ (8 * q) % 256 : Nat) : Int) by simp, pow8]
          simp)
        rw [low_succ, lay_snoc, low_len]
        exact this
      generalize (lay l o (low n q))[o + q]'(by rw [lay_len]; omega) = b at hc
      go_wp2
      go_roundw
      case rel => exact ⟨q + 1, by omega, by go_num, HX.out, HB.out.setCell (p := ⟨g, o + q, none⟩) (Nat.le_refl _) _⟩
      case measure => simp [RowKit.intOf]; omega
    · obtain rfl : q = k := by omega
      go_wp2
      exact bodyPost_ret (v := .tuple #[]) (by simp [results, Try.results54, go_sem]) rfl ⟨rfl, HR.out, HB.out⟩
end Go.Proofs.Ytndakbjmahkjdaa.Disk.Jn
