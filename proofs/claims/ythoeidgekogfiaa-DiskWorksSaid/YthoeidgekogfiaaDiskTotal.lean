/-
  The calls of package disk, each with one answer for whatever comes in.
-/
import Derived.Test.YthoeidgekogfiaaDiskMath2
import Derived.Test.YthoeidgekogfiaaDiskNew
import Derived.Test.YthoeidgekogfiaaDiskPut
namespace Go.Proofs.Ythoeidgekogfiaa.Disk
open Go.RowKit Go.Lib

def newL (n : Int) : List ByteArray := if mayB n = true then List.replicate n.toNat zeros else []
def newE (n : Int) : Int := if mayB n = true then 0 else 1
theorem New_any (n : Int) (w : World) : Calls Try.prog 7 #[.int .i64 n] w (DiskE (newL n) [] (newE n) w) := by
  unfold newL newE
  by_cases h : mayB n = true
  · rw [if_pos h, if_pos h]
    have := mayB_t.1 h
    obtain ⟨m, rfl⟩ : ∃ m : Nat, n = m := ⟨n.toNat, by omega⟩
    exact New_yes m (by omega) (by omega) w
  · rw [if_neg h, if_neg h]
    exact New_no n (by simpa using h) w
noncomputable def putR (ls : List ByteArray) (ws : List (Int × ByteArray)) (i : Int) (d : ByteArray) : Int := if rightB ls ws = true then putE ls.length ws.length i d.size else 1
noncomputable def putL (ls : List ByteArray) (ws : List (Int × ByteArray)) (i : Int) (d : ByteArray) : List ByteArray := if putR ls ws i d = 0 then ls else []
noncomputable def putW (ls : List ByteArray) (ws : List (Int × ByteArray)) (i : Int) (d : ByteArray) : List (Int × ByteArray) := if putR ls ws i d = 0 then ws ++ [(i, d)] else []
theorem putE_zero {n m : Nat} {i : Int} {s : Nat} (h : putE n m i s = 0) (hm : m ≤ 64) : hasB n i = true ∧ s = 64 ∧ m < 64 := by
  unfold putE at h
  split at h
  · cases h
  · rename_i h1
    split at h
    · cases h
    · rename_i h2
      split at h
      · cases h
      · rename_i h3
        exact ⟨by simpa using h1, by omega, by omega⟩
theorem Put_any {vS vW : Value} {ls : List ByteArray} {ws : List (Int × ByteArray)} {w : World} (hS : SRow w vS ls) (hW : WRow w vW ws) (hr : smallP ls ws) (i : Int) (d : ByteArray) : Calls Try.prog 8 #[.agg #[vS, vW], .int .i64 i, .string d] w (DiskE (putL ls ws i d) (putW ls ws i d) (putR ls ws i d) w) := by
  by_cases hb : rightB ls ws = true
  · have e : putR ls ws i d = putE ls.length ws.length i d.size := if_pos hb
    unfold putL putW
    rw [e]
    by_cases h0 : putE ls.length ws.length i d.size = 0
    · obtain ⟨h1, h2, h3⟩ := putE_zero h0 (rightB_t.1 hb).2.2.1
      rw [if_pos h0, if_pos h0, h0]
      exact Put_yes hS hW hb i d h1 h2 h3
    · rw [if_neg h0, if_neg h0]
      exact Put_no hS hW hr hb i d h0
  · have e : putR ls ws i d = 1 := if_neg hb
    unfold putL putW
    rw [e, if_neg (by omega), if_neg (by omega)]
    exact Put_bad hS hW hr (by simpa using hb) i d
noncomputable def getSS (ls : List ByteArray) (ws : List (Int × ByteArray)) (k : Int) : ByteArray := if rightB ls ws = true then getS ls ws k else ⟨#[]⟩
noncomputable def getEE (ls : List ByteArray) (ws : List (Int × ByteArray)) (k : Int) : Int := if rightB ls ws = true then getE ls.length k else 1
theorem Get_all {vS vW : Value} {ls : List ByteArray} {ws : List (Int × ByteArray)} {w : World} (hS : SRow w vS ls) (hW : WRow w vW ws) (hr : smallP ls ws) (k : Int) : Calls Try.prog 9 #[.agg #[vS, vW], .int .i64 k] w (TextE (getSS ls ws k) (getEE ls ws k) w) := by
  unfold getSS getEE
  by_cases hb : rightB ls ws = true
  · rw [if_pos hb, if_pos hb]; exact Get_any hS hW hb k
  · rw [if_neg hb, if_neg hb]; exact Get_bad hS hW hr (by simpa using hb) k
noncomputable def crashR (kp : Nat) (ls : List ByteArray) (ws : List (Int × ByteArray)) (t : Int) : List ByteArray := if rightB ls ws = true then crashL kp ls ws t else []
noncomputable def rightE (ls : List ByteArray) (ws : List (Int × ByteArray)) : Int := if rightB ls ws = true then 0 else 1
theorem Crash_all {vS vW : Value} {ls : List ByteArray} {ws : List (Int × ByteArray)} {w : World} (hS : SRow w vS ls) (hW : WRow w vW ws) (hr : smallP ls ws) (kp : Nat) (hkp : kp < 18446744073709551616) (t : Int) : Calls Try.prog 11 #[.agg #[vS, vW], .int .u64 kp, .int .i64 t] w (DiskE (crashR kp ls ws t) [] (rightE ls ws) w) := by
  unfold crashR rightE
  by_cases hb : rightB ls ws = true
  · rw [if_pos hb, if_pos hb]; exact Crash_yes hS hW hb kp hkp t
  · rw [if_neg hb, if_neg hb]; exact Crash_bad hS hW hr (by simpa using hb) kp t
theorem Flush_all {vS vW : Value} {ls : List ByteArray} {ws : List (Int × ByteArray)} {w : World} (hS : SRow w vS ls) (hW : WRow w vW ws) (hr : smallP ls ws) : Calls Try.prog 10 #[.agg #[vS, vW]] w (DiskE (crashR 18446744073709551615 ls ws 0) [] (rightE ls ws) w) := by
  unfold crashR rightE
  by_cases hb : rightB ls ws = true
  · rw [if_pos hb, if_pos hb]; exact Flush_yes hS hW hb
  · rw [if_neg hb, if_neg hb]; exact Flush_bad hS hW hr (by simpa using hb)
end Go.Proofs.Ythoeidgekogfiaa.Disk
