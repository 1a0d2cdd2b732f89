/-
  Joined: BRow, JActs.
-/
import Derived.Test.YtndakbjmahkjdaaMq
import Derived.Laws.IdiomStrings
import Derived.Test.YtndakbjmahkjdaaMy
import Derived.Deep.Slices

/-
  A row of bytes in a block of its own, told by a list: made of a text, read, written, turned back into a text; a check's contract that keeps it.
-/
namespace Go.Proofs.Ytndakbjmahkjdaa.Crc
open Go.ChangeShapes Go.WideShapes Go.ChangeAt Go.RowKit

/-- Block g holds the bytes l, from its head on, and they may be written. -/
def BRow (g : Nat) (l : List UInt8) (w : World) : Prop := g < w.heap.size ∧ ∀ j (h : j < l.length), w.cell? ⟨g, j, none⟩ = some (.int .u8 (l[j].toNat : Int)) ∧ w.frozen? ⟨g, j, none⟩ = false
theorem BRow.cell {g : Nat} {l : List UInt8} {w : World} (h : BRow g l w) {j : Nat} (hj : j < l.length) : w.cell? ⟨g, j, none⟩ = some (.int .u8 (l[j].toNat : Int)) := (h.2 j hj).1
theorem BRow.free {g : Nat} {l : List UInt8} {w : World} (h : BRow g l w) {j : Nat} (hj : j < l.length) : w.frozen? ⟨g, j, none⟩ = false := (h.2 j hj).2
theorem BRow.below {g : Nat} {l : List UInt8} {w w' : World} (h : BRow g l w) (hb : Below w.heap.size w w') : BRow g l w' :=
  ⟨Nat.lt_of_lt_of_le h.1 hb.size, fun j hj => ⟨by rw [hb.cell (p := ⟨g, j, none⟩) h.1]; exact h.cell hj, by rw [hb.frozen (p := ⟨g, j, none⟩) h.1]; exact h.free hj⟩⟩
theorem BRow.drewN {g : Nat} {l : List UInt8} {w : World} (h : BRow g l w) (n : Nat) : BRow g l (w.drewN n) := h.below (drawnB w n)
theorem BRow.drew {g : Nat} {l : List UInt8} {w : World} (h : BRow g l w) : BRow g l w.drew := h.drewN 1

theorem BRow.set {g : Nat} {l : List UInt8} {w : World} (h : BRow g l w) {k : Nat} (hk : k < l.length) (b : UInt8) {x : Int} (hx : x = (b.toNat : Int)) : BRow g (l.set k b) (w.setCell ⟨g, k, none⟩ (.int .u8 x)) := by
  subst hx
  refine ⟨by simpa using h.1, fun j hj => ?_⟩
  have hj' : j < l.length := by simpa using hj
  refine ⟨?_, ?_⟩
  · by_cases e : k = j
    · subst e
      rw [World.cell?_setCell_same _ _ _ (h.cell hk)]
      simp
    · rw [World.cell?_setCell_other _ _ _ _ (by intro hh; injection hh; contradiction), h.cell hj', List.getElem_set_ne e]
  · rw [World.frozen?_setCell]; exact h.free hj'

/-- '[]byte(s)'. -/
theorem BRow.made (s : ByteArray) (w : World) : ∃ (cap : Nat) (w0 : World), s.size ≤ cap ∧ (convert 9 46 (.string s)).run Try.prog w = .ok (.slice (some ⟨w.heap.size, 0, none⟩) s.size cap) w0 ∧ BRow w.heap.size s.data.toList w0 ∧ Below w.heap.size w w0 := by
  refine ⟨_, _, ?_, run_bytes_of_string w 9 46 5 s Try.underlying9 Try.underlying46 Try.underlying5, ⟨?_, fun j hj => ⟨?_, ?_⟩⟩, ?_⟩
  · have := grownCap_ge w s.size 0 5
    omega
  · show w.heap.size < (w.drew.heap.push _).size
    simp
  · have := World.cell?_alloc_mark w.drew (bytesRow s (grownCap w s.size 0 5)) 5 ((bytesRow s (grownCap w s.size 0 5)).size, (bytesRow s (grownCap w s.size 0 5)).size + 1) j
    rw [show w.drew.heap.size = w.heap.size from rfl] at this
    rw [this, bytesRow_at s _ j (by simpa using hj)]
    simp
  · have := World.frozen?_alloc_mark w.drew (bytesRow s (grownCap w s.size 0 5)) 5 (bytesRow s (grownCap w s.size 0 5)).size ((bytesRow s (grownCap w s.size 0 5)).size + 1) j
    rw [show w.drew.heap.size = w.heap.size from rfl] at this
    have hs : j < s.data.size := by simpa using hj
    have hb : s.data.size ≤ (bytesRow s (grownCap w s.size 0 5)).size := by unfold bytesRow; simp
    rw [this]
    simp
    omega
  · exact (Below.refl _ _).drew.alloc (Nat.le_refl _) _

/-- 'string(b)'. -/
theorem BRow.back {g n cap : Nat} {l : List UInt8} {w : World} (h : BRow g l w) (hn : l.length = n) : (convert 46 9 (.slice (some ⟨g, 0, none⟩) n cap)).run Try.prog w = .ok (.string ⟨l.toArray⟩) w := by
  subst hn
  refine run_convert_bytes_back w 46 9 5 ⟨g, 0, none⟩ cap l Try.underlying46 Try.underlying5 Try.underlying9 ?_
  intro j hj
  rw [Addr.add_mid, Nat.zero_add]
  exact h.cell hj

/-- Bytes that stay, and all that lay before the call is as it was. -/
def Kept (w0 : World) (g : Nat) (l : List UInt8) (w : World) : Prop := BRow g l w ∧ Below w0.heap.size w0 w
theorem Kept.below {w0 : World} {g : Nat} {l : List UInt8} {w w' : World} (h : Kept w0 g l w) (hb : Below w.heap.size w w') : Kept w0 g l w' := ⟨h.1.below hb, below_trans h.2 hb⟩
theorem Kept.drew {w0 : World} {g : Nat} {l : List UInt8} {w : World} (h : Kept w0 g l w) : Kept w0 g l w.drew := h.below (drawnB w 1)
theorem Of_kept {w0 : World} {g : Nat} {l : List UInt8} {n : Nat} {s : ByteArray} (hs : s.size ≤ maxLen) (e : crcOn 0 s.data.toList = n) {w : World} (h : Kept w0 g l w) :
    Calls Try.prog 69 #[.string s] w fun e w' => e = .returned (.int .u32 n) ∧ Kept w0 g l w' := (Of_eq hs e w).mono fun _ _ ⟨he, hb⟩ => ⟨he, h.below hb⟩
end Go.Proofs.Ytndakbjmahkjdaa.Crc

/-
  Acts among a law's arguments, opened: of each its kind, text, lateness and numbers.
-/
namespace Go.Proofs.Ytndakbjmahkjdaa.Disk.Jn
open Go.ChangeShapes Go.WideShapes Go.ChangeAt Go.RowKit Go.Lib Go.Deep

/-- A slice of acts that came in. -/
def ArgA (w : World) (v : Value) : Prop := ∃ (a : Option Addr) (len cap : Nat), v = .slice a len cap ∧ len ≤ cap ∧ cap ≤ 9223372036854775807 ∧
  (0 < len → ∃ b off, a = some ⟨b, off, none⟩ ∧ b < w.heap.size ∧ ∀ j, j < len → ∃ (k : Int) (d : ByteArray) (l : Bool) (kp : Nat) (t : Int), d.size ≤ 9223372036854775807 ∧ (-9223372036854775808 ≤ k ∧ k ≤ 9223372036854775807) ∧ kp < 18446744073709551616 ∧
    w.cell? ⟨b, off + j * 5, none⟩ = some (.int .i64 k) ∧ w.cell? ⟨b, off + j * 5 + 1, none⟩ = some (.string d) ∧ w.cell? ⟨b, off + j * 5 + 2, none⟩ = some (.bool l) ∧ w.cell? ⟨b, off + j * 5 + 3, none⟩ = some (.int .u64 kp) ∧ w.cell? ⟨b, off + j * 5 + 4, none⟩ = some (.int .i64 t))

section
variable {H : Type} {enc : TypeId × Value → H} {W : World} {base : Nat} {spare : Nat → Bool} {held : Bool}

theorem act_of {fuel : Nat} {c0 c1 c2 c3 c4 : Value} {x : DataW H × List MemPlace} (h : DataW.trod enc Try.prog W base spare held fuel 44 [c0, c1, c2, c3, c4] = some x) :
    ∃ (k : Int) (d : ByteArray) (l : Bool) (kp : Nat) (t : Int), c0 = .int .i64 k ∧ c1 = .string d ∧ c2 = .bool l ∧ c3 = .int .u64 kp ∧ c4 = .int .i64 t ∧ d.size ≤ 9223372036854775807 ∧ (-9223372036854775808 ≤ k ∧ k ≤ 9223372036854775807) ∧ kp < 18446744073709551616 := by
  obtain ⟨xs, n, _, _, _, hx, hf⟩ := DataW.trod_struct Try.underlying44 h
  have k1 : Try.prog.cellsOf 3 = 1 := by kernel_rfl
  have k2 : Try.prog.cellsOf 9 = 1 := by kernel_rfl
  have k3 : Try.prog.cellsOf 4 = 1 := by kernel_rfl
  have k4 : Try.prog.cellsOf 28 = 1 := by kernel_rfl
  match xs, hx with
  | [x0, x1, x2, x3, x4], _ =>
    have g0 : DataW.trod enc Try.prog W base spare held n 3 (([c0, c1, c2, c3, c4].drop 0).take (Try.prog.cellsOf 3)) = some x0 := hf 0 _ rfl
    have g1 : DataW.trod enc Try.prog W base spare held n 9 (([c0, c1, c2, c3, c4].drop 1).take (Try.prog.cellsOf 9)) = some x1 := hf 1 _ rfl
    have g2 : DataW.trod enc Try.prog W base spare held n 4 (([c0, c1, c2, c3, c4].drop 2).take (Try.prog.cellsOf 4)) = some x2 := hf 2 _ rfl
    have g3 : DataW.trod enc Try.prog W base spare held n 28 (([c0, c1, c2, c3, c4].drop 3).take (Try.prog.cellsOf 28)) = some x3 := hf 3 _ rfl
    have g4 : DataW.trod enc Try.prog W base spare held n 3 (([c0, c1, c2, c3, c4].drop 4).take (Try.prog.cellsOf 3)) = some x4 := hf 4 _ rfl
    rw [k1] at g0 g4
    rw [k2] at g1
    rw [k3] at g2
    rw [k4] at g3
    obtain ⟨k, e0, _, w0⟩ := DataW.trod_int Try.underlying3 g0
    obtain ⟨d, e1, _, w1⟩ := DataW.trod_string Try.underlying9 g1
    obtain ⟨l, e2, _⟩ := DataW.trod_bool Try.underlying4 g2
    obtain ⟨kp, e3, _, w3⟩ := DataW.trod_int Try.underlying28 g3
    obtain ⟨t, e4, _, w4⟩ := DataW.trod_int Try.underlying3 g4
    have b0 : -9223372036854775808 ≤ k ∧ k ≤ 9223372036854775807 := by
      simp [Lit.wf, IntKind.min, IntKind.max, IntKind.bits, IntKind.signed] at w0
      omega
    have b3 : 0 ≤ kp ∧ kp < 18446744073709551616 := by
      simp [Lit.wf, IntKind.min, IntKind.max, IntKind.bits, IntKind.signed] at w3
      omega
    obtain ⟨kn, rfl⟩ : ∃ kn : Nat, kp = kn := ⟨kp.toNat, by omega⟩
    exact ⟨k, d, l, kn, t, by simpa using e0, by simpa using e1, by simpa using e2, by simpa using e3, by simpa using e4, by simpa [maxLen] using w1, b0, by omega⟩

theorem argA_of {fuel : Nat} {v : Value} {x : DataW H × List MemPlace} (h : DataW.trod enc Try.prog W base spare held fuel 41 [v] = some x) : ArgA W v := by
  rcases open_slice Try.underlying41 h with ⟨hcs, _⟩ | ⟨a, len, cap, m, n, D, Pl, hcs, hb, hl, hm, hmm, hx, hi⟩
  · obtain rfl : v = .slice none 0 0 := by simpa using hcs
    exact ⟨none, 0, 0, rfl, Nat.le_refl _, by omega, fun h => absurd h (Nat.lt_irrefl _)⟩
  · obtain rfl : v = .slice (some a) len cap := by simpa using hcs
    unfold maxLen at hm
    refine ⟨some a, len, cap, rfl, hl, by omega, fun h0 => ?_⟩
    have hls : len ≤ m := by rw [hmm]; split <;> omega
    have k5 : Try.prog.cellsOf 44 = 5 := by kernel_rfl
    obtain ⟨b, off, spot⟩ := a
    have one : ∀ j, j < len → ∃ c0 c1 c2 c3 c4, DataW.trod enc Try.prog W base spare held n 44 [c0, c1, c2, c3, c4] = some (D j, Pl j) ∧ W.cell? ((⟨b, off, spot⟩ : Addr).add (j * 5)) = some c0 ∧ W.cell? (((⟨b, off, spot⟩ : Addr).add (j * 5)).add 1) = some c1 ∧ W.cell? (((⟨b, off, spot⟩ : Addr).add (j * 5)).add 2) = some c2 ∧ W.cell? (((⟨b, off, spot⟩ : Addr).add (j * 5)).add 3) = some c3 ∧ W.cell? (((⟨b, off, spot⟩ : Addr).add (j * 5)).add 4) = some c4 := by
      intro j hj
      obtain ⟨cs', hc, ht'⟩ := hi j (by omega)
      rw [k5] at hc
      obtain ⟨_, hcl, hat⟩ := World.cells?_some hc
      match cs', hcl with
      | [c0, c1, c2, c3, c4], _ =>
        refine ⟨c0, c1, c2, c3, c4, ht', ?_, hat 1 (by omega), hat 2 (by omega), hat 3 (by omega), hat 4 (by omega)⟩
        have := hat 0 (by omega)
        rwa [show ((⟨b, off, spot⟩ : Addr).add (j * 5)).add 0 = (⟨b, off, spot⟩ : Addr).add (j * 5) by unfold Addr.add; split <;> simp_all] at this
    obtain ⟨_, _, _, _, _, _, z0, _⟩ := one 0 h0
    have hspot : spot = none := by simpa [Addr.add] using World.cell?_spot z0
    subst hspot
    have ha : ∀ o j, (⟨b, o, none⟩ : Addr).add j = ⟨b, o + j, none⟩ := fun o j => add_off b o j
    refine ⟨b, off, rfl, by simpa [Addr.add] using block_lt_of_cell z0, fun j hj => ?_⟩
    obtain ⟨c0, c1, c2, c3, c4, ht, z0, z1, z2, z3, z4⟩ := one j hj
    obtain ⟨k, d, l, kp, t, rfl, rfl, rfl, rfl, rfl, h1, h2, h3⟩ := act_of ht
    rw [ha] at z0 z1 z2 z3 z4
    rw [ha] at z1 z2 z3 z4
    exact ⟨k, d, l, kp, t, h1, h2, h3, z0, z1, z2, z3, z4⟩
end
end Go.Proofs.Ytndakbjmahkjdaa.Disk.Jn
