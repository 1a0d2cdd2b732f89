/-
  Contract of tear (package disk): a sector whose first bytes are another's; rows of bytes in a block of their own.
-/
import Derived.Test.YthoeidgekogfiaaDiskRow
import Derived.Laws.IdiomStrings
namespace Go.Proofs.Ythoeidgekogfiaa.Disk
open Go.ChangeShapes Go.WideShapes Go.ChangeAt Go.RowKit Go.Lib

/-- Block g holds the bytes l, from its head on, and they may be written. -/
def BRow (g : Nat) (l : List UInt8) (w : World) : Prop := g < w.heap.size ∧ ∀ j b, l[j]? = some b → w.cell? ⟨g, j, none⟩ = some (.int .u8 (b.toNat : Int)) ∧ w.frozen? ⟨g, j, none⟩ = false
theorem BRow.at {g : Nat} {l : List UInt8} {w : World} (h : BRow g l w) {j : Nat} (hj : j < l.length) : w.cell? ⟨g, j, none⟩ = some (.int .u8 (l[j].toNat : Int)) ∧ w.frozen? ⟨g, j, none⟩ = false := h.2 j _ (List.getElem?_eq_getElem hj)

/-- '[]byte(s)'. -/
theorem BRow.made (s : ByteArray) (w : World) : ∃ (cap : Nat) (w0 : World), s.size ≤ cap ∧ (convert 9 64 (.string s)).run Try.prog w = .ok (.slice (some ⟨w.heap.size, 0, none⟩) s.size cap) w0 ∧ BRow w.heap.size s.data.toList w0 ∧ Below w.heap.size w w0 := by
  refine ⟨_, _, ?_, run_bytes_of_string w 9 64 5 s Try.underlying9 Try.underlying64 Try.underlying5, ⟨?_, fun j b hb => ?_⟩, ?_⟩
  · have := grownCap_ge w s.size 0 5
    omega
  · show w.heap.size < (w.drew.heap.push _).size
    simp
  · obtain ⟨hj, rfl⟩ := List.getElem?_eq_some_iff.1 hb
    constructor
    · have := World.cell?_alloc_mark w.drew (bytesRow s (grownCap w s.size 0 5)) 5 ((bytesRow s (grownCap w s.size 0 5)).size, (bytesRow s (grownCap w s.size 0 5)).size + 1) j
      rw [show w.drew.heap.size = w.heap.size from rfl] at this
      rw [this, bytesRow_at s _ j (by simpa using hj)]
      simp
    · have := World.frozen?_alloc_mark w.drew (bytesRow s (grownCap w s.size 0 5)) 5 (bytesRow s (grownCap w s.size 0 5)).size ((bytesRow s (grownCap w s.size 0 5)).size + 1) j
      rw [show w.drew.heap.size = w.heap.size from rfl] at this
      have hs : j < s.data.size := by simpa using hj
      have hb : s.data.size ≤ (bytesRow s (grownCap w s.size 0 5)).size := by unfold bytesRow; simp
      rw [this]
      simp
      omega
  · exact (Below.refl _ _).drew.alloc (Nat.le_refl _) _

/-- 'string(b)'. -/
theorem BRow.back {g n cap : Nat} {l : List UInt8} {w : World} (h : BRow g l w) (hn : l.length = n) : (convert 64 9 (.slice (some ⟨g, 0, none⟩) n cap)).run Try.prog w = .ok (.string ⟨l.toArray⟩) w := by
  subst hn
  refine run_convert_bytes_back w 64 9 5 ⟨g, 0, none⟩ cap l Try.underlying64 Try.underlying5 Try.underlying9 ?_
  intro j hj
  rw [addr_at]
  exact (h.at hj).1

/-- The bytes d over the head of the bytes l. -/
def over (d l : List UInt8) : List UInt8 := d ++ l.drop d.length
theorem over_len {d l : List UInt8} (h : d.length ≤ l.length) : (over d l).length = l.length := by simp [over]; omega
theorem over_at (d l : List UInt8) (j : Nat) : (over d l)[j]? = if j < d.length then d[j]? else l[j]? := by
  unfold over
  rw [List.getElem?_append]
  by_cases hd : j < d.length
  · rw [if_pos hd, if_pos hd]
  · rw [if_neg hd, if_neg hd, List.getElem?_drop]
    congr 1
    omega
theorem setCells_size (b : Nat) : ∀ (vs : List Value) (o : Nat) (w : World), (w.setCells b o vs).heap.size = w.heap.size
  | [], _, _ => rfl
  | v :: r, o, w => by rw [World.setCells, setCells_size b r]; simp
theorem BRow.copied {g : Nat} {l : List UInt8} {w : World} (h : BRow g l w) (d : List UInt8) (hd : d.length ≤ l.length) : BRow g (over d l) (w.setCells g 0 (d.map fun x => Value.int .u8 (x.toNat : Int))) := by
  refine ⟨by rw [setCells_size]; exact h.1, fun j b hb => ?_⟩
  rw [over_at] at hb
  rw [World.frozen?_setCells]
  by_cases c : j < d.length
  · rw [if_pos c] at hb
    have := World.cell?_setCells_in g (d.map fun x => Value.int .u8 (x.toNat : Int)) 0 w (fun i hi => by
      simp at hi
      rw [Nat.zero_add, (h.at (by omega)).1]; rfl) j (by simpa using c)
    rw [Nat.zero_add] at this
    refine ⟨?_, (h.at (by omega)).2⟩
    rw [this]
    obtain ⟨_, rfl⟩ := List.getElem?_eq_some_iff.1 hb
    simp
  · rw [if_neg c] at hb
    rw [World.cell?_setCells_out g _ 0 w _ (fun _ _ => .inr (by simp; omega))]
    exact h.2 j b hb

/-- A sector whose first n bytes are those of d. -/
def torn (s d : ByteArray) (n : Nat) : ByteArray := ⟨(over (d.data.toList.take n) s.data.toList).toArray⟩
theorem bytes_size (s : ByteArray) : s.data.toList.length = s.size := by rw [Array.length_toList]; rfl
theorem extract_list (s : ByteArray) (n : Nat) : (s.extract 0 n).data.toList = s.data.toList.take n := by simp [ByteArray.data_extract]
theorem torn_size {s d : ByteArray} {n : Nat} (h : n ≤ s.size) : (torn s d n).size = s.size := by
  have := bytes_size s
  have := over_len (d := d.data.toList.take n) (l := s.data.toList) (by simp; omega)
  unfold torn
  simp only [ByteArray.size, List.size_toArray]
  rw [this]; simp

/-- A text is returned; nothing that lay has turned. -/
def TextB (s : ByteArray) (w : World) (e : Ending) (w' : World) : Prop := e = .returned (.string s) ∧ Below w.heap.size w w'

set_option maxHeartbeats 1000000 in
set_option maxRecDepth 100000 in
theorem tear_any (s d : ByteArray) (n : Nat) (w : World) (hs : s.size = 64) (hd : d.size = 64) (h1 : 0 < n) (h2 : n < 64) : Calls Try.prog 27 #[.string s, .string d, .int .i64 n] w (TextB (torn s d n) w) := by
  obtain ⟨cap, w0, hcap, hconv, hrow, hbe⟩ := BRow.made s w
  have hds : (d.extract 0 n).size = n := by rw [ByteArray.size_extract]; omega
  have hsl := bytes_size s
  have hcp := run_copy_string (P := Try.prog) w0 64 9 3 5 w.heap.size 0 s.size cap (d.extract 0 n) Try.underlying64 (fun w => Try.sizeOf5 w) (by omega)
    (fun j hj => by rw [Nat.zero_add, (hrow.at (by omega)).1]; rfl) (fun j hj => by rw [Nat.zero_add]; exact (hrow.at (by omega)).2)
  have hrow' := hrow.copied (d.extract 0 n).data.toList (by rw [bytes_size]; omega)
  have hback := hrow'.back (n := s.size) (cap := cap) (by rw [over_len (by rw [bytes_size]; omega)]; omega)
  have HT : Hid ((⟨(over (d.extract 0 n).data.toList s.data.toList).toArray⟩ : ByteArray) = torn s d n) := by unfold Hid torn; rw [extract_list]
  have HB := Lib.hid (below_setCells (B := w.heap.size) (b := w.heap.size) (Nat.le_refl _) ((d.extract 0 n).data.toList.map fun x => Value.int .u8 (x.toNat : Int)) 0 w0 hbe)
  generalize (⟨(over (d.extract 0 n).data.toList s.data.toList).toArray⟩ : ByteArray) = r at hback HT
  generalize w0.setCells w.heap.size 0 ((d.extract 0 n).data.toList.map fun x => Value.int .u8 (x.toNat : Int)) = w1 at hcp hback HB
  rw [hs] at hconv hcp hback
  clear hrow hrow' hbe
  go_enter Try.func27, Try.ntmps27
  go_wp2_with (at_builtin; refine Lib.wpList_copy_run _ rfl _ _ 64 9 rfl _ _ rfl rfl hcp ?_)
  go_ret
  exact ⟨by rw [← HT.out]; rfl, HB.out⟩
end Go.Proofs.Ythoeidgekogfiaa.Disk
