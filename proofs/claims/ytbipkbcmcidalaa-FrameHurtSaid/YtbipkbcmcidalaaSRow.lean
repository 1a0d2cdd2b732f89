/-
  Rows of texts that lie in memory; contracts of the reference's MayRow and Same.
-/
import Derived.Test.YtbipkbcmcidalaaKeep
import Derived.Deep.QuietTactic
import Derived.BigQuiet
namespace Go.Proofs.Ytbipkbcmcidalaa
open Go.ChangeShapes Go.WideShapes Go.ChangeAt Go.RowKit Go.Lib Go.Conc

/-- The slice v is the row of texts ls. -/
def SRow (w : World) (v : Value) (ls : List ByteArray) : Prop :=
  (v = .slice none 0 0 ∧ ls = []) ∨ ∃ g cap, v = .slice (some ⟨g, 0, none⟩) ls.length cap ∧ ls.length ≤ cap ∧ g < w.heap.size ∧ ∀ j (h : j < ls.length), w.cell? ⟨g, j, none⟩ = some (.string ls[j])

theorem addr_at (g j : Nat) : (⟨g, 0, none⟩ : Addr).add j = ⟨g, j, none⟩ := by
  simp [Addr.add]
  intro h; exact h.symm
theorem srow_of_own {w : World} {B : Nat} {v : Value} {ls : List ByteArray} (h : w.ownsRow B 9 1 v ls.length (scells ls)) : SRow w v ls := by
  have hw := h
  obtain ⟨_, ⟨rfl, h2⟩ | ⟨g, cap, cur, rfl, hg, hh, hn, _⟩⟩ := h
  · exact .inl ⟨rfl, List.length_eq_zero_iff.1 h2⟩
  · refine .inr ⟨g, cap, rfl, hn, ?_, ?_⟩
    · apply Classical.byContradiction
      intro hc
      rw [Array.getElem?_eq_none (by omega)] at hh
      cases hh
    · intro j hj
      have := hw.cells (g := g) rfl j (.string ls[j]) (by simp [scells, List.getElem?_map, List.getElem?_eq_getElem hj])
      rwa [addr_at] at this
theorem srow_below {w w' : World} {v : Value} {ls : List ByteArray} (h : SRow w v ls) (hb : Below w.heap.size w w') : SRow w' v ls := by
  rcases h with h | ⟨g, cap, hv, hc, hg, hcell⟩
  · exact .inl h
  · exact .inr ⟨g, cap, hv, hc, Nat.lt_of_lt_of_le hg hb.size, fun j hj => (hb.cell (p := ⟨g, j, none⟩) hg).trans (hcell j hj)⟩

/-- A row that may be written. -/
def rowOk (ls : List ByteArray) : Prop := ls.length ≤ 256 ∧ ∀ j (h : j < ls.length), ls[j].size ≤ 4096
theorem rowOk_not {ls : List ByteArray} (h : ¬ rowOk ls) : 256 < ls.length ∨ ∃ j, ∃ h : j < ls.length, 4096 < ls[j].size := by
  by_cases h1 : ls.length ≤ 256
  · right
    apply Classical.byContradiction
    intro hc
    exact h ⟨h1, fun j hj => by
      apply Classical.byContradiction
      intro hn
      exact hc ⟨j, hj, by omega⟩⟩
  · left; omega

set_option maxHeartbeats 1000000 in
set_option maxRecDepth 100000 in
theorem Same_yes {va vb : Value} {ls : List ByteArray} {w : World} (ha : SRow w va ls) (hb : SRow w vb ls) (hl : ls.length ≤ 1000000) : Calls Try.prog 11 #[va, vb] w (BoolB true w) := by
  by_cases h0 : ls = []
  · subst h0
    have h1 : ∃ a cap, va = .slice a 0 cap := by
      rcases ha with ⟨rfl, _⟩ | ⟨g, cap, rfl, _⟩
      · exact ⟨none, 0, rfl⟩
      · exact ⟨some ⟨g, 0, none⟩, cap, rfl⟩
    have h2 : ∃ a cap, vb = .slice a 0 cap := by
      rcases hb with ⟨rfl, _⟩ | ⟨g, cap, rfl, _⟩
      · exact ⟨none, 0, rfl⟩
      · exact ⟨some ⟨g, 0, none⟩, cap, rfl⟩
    obtain ⟨a, cap, rfl⟩ := h1
    obtain ⟨a', cap', rfl⟩ := h2
    clear ha hb
    go_enter Try.func11, Try.ntmps11
    go_wp2
    refine wp_loop_rounds 1 ?_
    rw [rounds_succ]
    go_wp2
    go_ret
    exact ⟨rfl, Below.refl _ _⟩
  · rcases ha with ⟨_, rfl⟩ | ⟨g, cap, rfl, hc, hg, hcell⟩
    · exact absurd rfl h0
    rcases hb with ⟨_, rfl⟩ | ⟨g', cap', rfl, hc', hg', hcell'⟩
    · exact absurd rfl h0
    have HCE := Lib.hid hcell
    have HCE' := Lib.hid hcell'
    clear hcell hcell' h0
    go_enter Try.func11, Try.ntmps11
    go_wp2
    go_loopw [13] (fun i wr => ∃ k q : Nat, k ≤ ls.length ∧ i = .int .i64 k ∧ wr = w.drewN q) (fun i _ => ls.length - (intOf i).toNat)
    case atStart => exact ⟨0, 0, Nat.zero_le _, rfl, rfl⟩
    case round =>
      obtain ⟨k, q, hk, rfl, rfl⟩ := hrel
      by_cases hlt : k < ls.length
      · have hce := HCE.out k hlt
        have hce' := HCE'.out k hlt
        have b1 : (0 : Int) ≤ k := by omega
        have b2 : (k : Int) < ls.length := by omega
        generalize ls[k] = x at hce hce'
        go_wp2
        go_quiet (fail)
        go_wp2
        go_roundw
        case rel => exact ⟨k + 1, _, by omega, by go_num, rfl⟩
        case measure => simp [intOf]; omega
      · go_wp2
        go_ret
        exact ⟨rfl, bel_drewN _ _⟩
end Go.Proofs.Ytbipkbcmcidalaa
