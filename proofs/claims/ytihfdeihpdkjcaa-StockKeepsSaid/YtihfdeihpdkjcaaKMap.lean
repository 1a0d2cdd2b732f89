/-
  A map from texts to numbers that the call makes: what its block reads as, looked up, stored into.
-/
import Derived.Test.YtihfdeihpdkjcaaKRow
import Derived.Maps.OwnSet
import Derived.Maps.OwnOps
namespace Go.Proofs.Ytihfdeihpdkjcaa.Goods.Stk
open Go.ChangeShapes Go.WideShapes Go.ChangeAt Go.RowKit Go.Shelf
open Go.Maps (Keyed)

theorem keyLaw : Keyed Try.prog 9 := Maps.string_keyed Try.underlying9
theorem zeroInt (w : World) : (zeroValue 3).run Try.prog w = .ok (.int .i64 0) w := by kernel_rfl

/-- A text as a key; a number as an element. -/
def ky (s : ByteArray) : Lit := .string s.data.toList
def nm (a : Int) : DataW Unit := .lit (.int .i64 a)
theorem ky_inj {s t : ByteArray} (h : ky s = ky t) : s = t := by
  unfold ky at h
  have h1 : s.data.toList = t.data.toList := by injection h
  have h2 : s.data = t.data := Array.toList_inj.1 h1
  cases s; cases t; cases h2; rfl
theorem ky_is (s : ByteArray) : WideAt.IsKeyLit (ky s) := trivial
theorem ky_of {s : ByteArray} (hs : s.size ≤ maxLen) : keyOf Try.prog 9 (.string s) = some (ky s) := WideMaps.keyOf_string_mk Try.underlying9 hs

/-- A block is a map of at most k entries that has these texts, so many of them, and of each this number. -/
def MapZ (W : World) (B k : Nat) (f : ByteArray → Int) (h : ByteArray → Bool) (n : Nat) : Prop :=
  ∃ D : DataW Unit, W.ownsMap Try.prog 9 (plainElem Try.prog 3) B k D ∧ (∀ s, D.atKey (ky s) (nm 0) = nm (f s)) ∧ (∀ s, Maps.has D (ky s) = h s) ∧ Maps.size D = n

theorem MapZ.made (w : World) : MapZ (w.alloc (.map #[] 0)) w.heap.size 0 (fun _ => 0) (fun _ => false) 0 :=
  ⟨.map [], World.ownsMap_made _ _ _ _, fun _ => rfl, fun _ => rfl, rfl⟩
theorem MapZ.lt {W : World} {B k n : Nat} {f : ByteArray → Int} {h : ByteArray → Bool} (hm : MapZ W B k f h n) : B < W.heap.size := by
  obtain ⟨D, ho, _⟩ := hm
  exact ho.lt
theorem MapZ.mono {W : World} {B k n : Nat} {f : ByteArray → Int} {h : ByteArray → Bool} (hm : MapZ W B k f h n) {k' : Nat} (hk : k ≤ k') : MapZ W B k' f h n := by
  obtain ⟨D, ho, hr⟩ := hm
  exact ⟨D, ho.mono hk, hr⟩
theorem MapZ.kept {W W' : World} {B k n : Nat} {f : ByteArray → Int} {h : ByteArray → Bool} (hm : MapZ W B k f h n) {row : Option Nat} (hg : W.grownBy W' row) (hne : some B ≠ row) : MapZ W' B k f h n := by
  obtain ⟨D, ho, hr⟩ := hm
  exact ⟨D, ho.kept hg hne, hr⟩
theorem grown_below {W W' : World} (hb : Below W.heap.size W W') : W.grownBy W' none := ⟨hb.os, hb.tape, hb.output, hb.size, fun k hk _ => hb.block k hk⟩
theorem MapZ.below {W W' : World} {B k n : Nat} {f : ByteArray → Int} {h : ByteArray → Bool} (hm : MapZ W B k f h n) (hb : Below W.heap.size W W') : MapZ W' B k f h n := hm.kept (grown_below hb) (by simp)
theorem MapZ.look {W : World} {B k n : Nat} {f : ByteArray → Int} {h : ByteArray → Bool} (hm : MapZ W B k f h n) {s : ByteArray} (hs : s.size ≤ maxLen) :
    (Instr.lookup 42 (.map (some B)) (.string s) false).run Try.prog W = .ok (.int .i64 (f s)) W := by
  obtain ⟨D, ho, hf, _⟩ := hm
  obtain ⟨c, hrun, hat, _⟩ := ho.lookup_int keyLaw Try.underlying42 Try.underlying3 (zeroInt W) (ky_of hs)
  have e : nm (f s) = nm c := (hf s).symm.trans hat
  have e2 : f s = c := by unfold nm at e; injection e with e; injection e
  rw [e2]
  exact hrun
theorem MapZ.len {W : World} {B k n : Nat} {f : ByteArray → Int} {h : ByteArray → Bool} (hm : MapZ W B k f h n) (ty : TypeId) : (Builtin.len_ #[42] ty #[.map (some B)]).run Try.prog W = .ok (.int .i64 n) W := by
  obtain ⟨D, ho, _, _, hn⟩ := hm
  rw [← hn]
  exact ho.len Try.underlying42 ty
/-- A store: the number of that text is turned, and it is there. -/
theorem MapZ.put {W : World} {B k n : Nat} {f : ByteArray → Int} {h : ByteArray → Bool} (hm : MapZ W B k f h n) (hk : k < 1000) {s : ByteArray} (hs : s.size ≤ maxLen) {v : Int} (hv : -9223372036854775808 ≤ v ∧ v ≤ 9223372036854775807) :
    ∃ W', (Instr.mapUpdate 42 (.map (some B)) (.string s) (.int .i64 v)).run Try.prog W = .ok () W' ∧ MapZ W' B (k + 1) (fun t => if t = s then v else f t) (fun t => decide (t = s) || h t) (if h s then n else n + 1) ∧ W.grownBy W' (some B) := by
  obtain ⟨D, ho, hf, hh, hn⟩ := hm
  obtain ⟨W', hrun, ho', hg⟩ := ho.update keyLaw Try.underlying42 (by unfold maxLen; omega) (ky_of hs) (plainElem_int Try.underlying3 (WalkArith.wf_i64 hv))
  refine ⟨W', hrun, ⟨_, ho', fun t => ?_, fun t => ?_, ?_⟩, hg⟩
  · dsimp only
    by_cases e : t = s
    · subst e
      rw [if_pos rfl, Maps.atKey_put_same ho.isMap (ky_is _)]
      rfl
    · rw [if_neg e, Maps.atKey_put_other (fun c => e (ky_inj c))]
      exact hf t
  · dsimp only
    by_cases e : t = s
    · subst e
      rw [decide_eq_true rfl, Maps.has_put_same ho.isMap (ky_is _)]
      rfl
    · rw [decide_eq_false e, Maps.has_put_other (fun c => e (ky_inj c))]
      simpa using hh t
  · rw [Maps.size_put (ho.tidy keyLaw), hh s, hn]

/-- Rows do not lie in a map's block. -/
theorem SRow.turned {W W' : World} {v : Value} {l : List Rw} {B k n : Nat} {f : ByteArray → Int} {h : ByteArray → Bool} (hr : SRow W v l) (hm : MapZ W B k f h n) (hg : W.grownBy W' (some B)) : SRow W' v l := by
  obtain ⟨a, cap, e, h1, h2, h3⟩ := hr
  refine ⟨a, cap, e, h1, h2, fun h0 => ?_⟩
  obtain ⟨b, off, ea, hbl, hc⟩ := h3 h0
  have hne : b ≠ B := by
    intro hb
    subst hb
    obtain ⟨D, ⟨es, clock, hb, _⟩, _⟩ := hm
    have h0 := (hc 0 h0).1
    simp [World.cell?, hb] at h0
  have hcell : ∀ o, W'.cell? ⟨b, o, none⟩ = W.cell? ⟨b, o, none⟩ := fun o => World.cell?_of_block (hg.block b hbl (by simpa using hne))
  refine ⟨b, off, ea, Nat.lt_of_lt_of_le hbl hg.size, fun j hj => ?_⟩
  obtain ⟨k0, k1, k2, k3, k4, k5⟩ := hc j hj
  exact ⟨by rw [hcell]; exact k0, by rw [hcell]; exact k1, by rw [hcell]; exact k2, by rw [hcell]; exact k3, by rw [hcell]; exact k4, by rw [hcell]; exact k5⟩
end Go.Proofs.Ytihfdeihpdkjcaa.Goods.Stk
