/-
  Plain mathematics of crashes: what a sector may hold behind one. No program in it.
-/
import Derived.Test.YthoeidgekogfiaaDiskCrash
namespace Go.Proofs.Ythoeidgekogfiaa.Disk
open Go.Lib

/-- Byte i of a text. -/
def byt (s : ByteArray) (i : Nat) : Nat := (s.data.toList.getD i 0).toNat
theorem byt_eq {s : ByteArray} {i : Nat} (h : i < s.size) : s[i].toNat = byt s i := by
  have h' : i < s.data.toList.length := by rw [bytes_size]; exact h
  unfold byt
  rw [List.getD, List.getElem?_eq_getElem h']
  rfl
theorem byt_torn {s d : ByteArray} {n i : Nat} (hd : n ≤ d.size) : byt (torn s d n) i = if i < n then byt d i else byt s i := by
  unfold byt torn
  have hl : (d.data.toList.take n).length = n := by rw [List.length_take, bytes_size]; omega
  have : (over (d.data.toList.take n) s.data.toList).toArray.toList = over (d.data.toList.take n) s.data.toList := by simp
  show ((over (d.data.toList.take n) s.data.toList).toArray.toList.getD i 0).toNat = _
  rw [this, List.getD, over_at, hl]
  by_cases h : i < n
  · rw [if_pos h, if_pos h, List.getElem?_take, if_pos h]; rfl
  · rw [if_neg h, if_neg h]; rfl
/-- Sector a's text x is made of bytes of the sector that was safe and of writes at its place. -/
def Made (ls : List ByteArray) (ws : List (Int × ByteArray)) (a : Nat) (x : ByteArray) : Prop :=
  ∀ i, i < 64 → byt x i = byt (ls.getD a ⟨#[]⟩) i ∨ ∃ j, ∃ h : j < ws.length, ws[j].1 = (a : Int) ∧ byt ws[j].2 i = byt x i
theorem keepTo_made {kp : Nat} {ls : List ByteArray} {ws : List (Int × ByteArray)} (hP : rightP ls ws) : ∀ k, k ≤ ws.length → ∀ a, a < ls.length → Made ls ws a ((keepTo kp ls ws k).getD a ⟨#[]⟩)
  | 0, _, a, ha => fun i hi => .inl rfl
  | k + 1, hk, a, ha => by
    have hk' : k < ws.length := by omega
    by_cases hb : bitB kp k = true
    · have e : keepTo kp ls ws (k + 1) = (keepTo kp ls ws k).set (wat ws k).1.toNat (wat ws k).2 := if_pos hb
      rw [e, wat_at hk', List.getD, List.getElem?_set]
      obtain ⟨y1, y2, y3⟩ := hP.2.2.2.2 k hk'
      by_cases hc : ws[k].1.toNat = a
      · rw [if_pos hc, if_pos (by rw [keepTo_len]; omega)]
        exact fun i hi => .inr ⟨k, hk', by omega, rfl⟩
      · rw [if_neg hc]
        exact keepTo_made hP k (by omega) a ha
    · have e : keepTo kp ls ws (k + 1) = keepTo kp ls ws k := if_neg hb
      rw [e]
      exact keepTo_made hP k (by omega) a ha
theorem crashL_len (kp : Nat) (ls : List ByteArray) (ws : List (Int × ByteArray)) (t : Int) : (crashL kp ls ws t).length = ls.length := by
  unfold crashL
  split
  · exact keepTo_len _ _ _ _
  · split
    · rw [List.length_set]; exact keepTo_len _ _ _ _
    · exact keepTo_len _ _ _ _
theorem getD_eq {l : List ByteArray} {a : Nat} (h : a < l.length) : l.getD a ⟨#[]⟩ = l[a] := by rw [List.getD, List.getElem?_eq_getElem h]; rfl
theorem crashL_made {kp : Nat} {ls : List ByteArray} {ws : List (Int × ByteArray)} (hP : rightP ls ws) (t : Int) {a : Nat} (ha : a < ls.length) : Made ls ws a ((crashL kp ls ws t).getD a ⟨#[]⟩) ∧ ((crashL kp ls ws t).getD a ⟨#[]⟩).size = 64 := by
  have hK := keepTo_made (kp := kp) hP ws.length (Nat.le_refl _)
  have hZ : ∀ b, b < ls.length → ((keepTo kp ls ws ws.length).getD b ⟨#[]⟩).size = 64 := fun b hb => by
    rw [getD_eq (by rw [keepTo_len]; exact hb)]
    exact keepTo_size hP _ (Nat.le_refl _) _
  unfold crashL
  split
  · exact ⟨hK a ha, hZ a ha⟩
  · rename_i r hr
    have hrl := lostO_lt hr
    obtain ⟨y1, y2, y3⟩ := hP.2.2.2.2 r hrl
    split
    · rename_i ht
      rw [wat_at hrl]
      rw [List.getD, List.getElem?_set]
      by_cases hc : ws[r].1.toNat = a
      · rw [if_pos hc, if_pos (by rw [keepTo_len]; omega)]
        subst hc
        refine ⟨fun i hi => ?_, ?_⟩
        · show byt (torn _ ws[r].2 t.toNat) i = _ ∨ _
          rw [Option.getD_some, byt_torn (by omega)]
          by_cases hin : i < t.toNat
          · rw [if_pos hin]
            exact .inr ⟨r, hrl, by omega, rfl⟩
          · rw [if_neg hin]
            exact hK _ ha i hi
        · show (torn _ ws[r].2 t.toNat).size = 64
          rw [torn_size (by rw [hZ _ ha]; omega), hZ _ ha]
      · rw [if_neg hc]
        exact ⟨hK a ha, hZ a ha⟩
    · exact ⟨hK a ha, hZ a ha⟩
end Go.Proofs.Ythoeidgekogfiaa.Disk
