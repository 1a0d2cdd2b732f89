/-
  Joined: DiskTear, DiskCrash, DiskPut.
-/
import Derived.Test.YtndakbjmahkjdaaMa
import Derived.Laws.IdiomStrings
import Derived.Test.YtndakbjmahkjdaaMb
import Derived.Deep.RegionWith
import Derived.Deep.CutRange
import Derived.Deep.RegionHeld3
import Derived.Deep.Cut
import Derived.Deep.AppendLies

/-
  Contract of tear (package disk): a sector whose first bytes are another's; rows of bytes in a block of their own.
-/
namespace Go.Proofs.Ytndakbjmahkjdaa.Disk
open Go.ChangeShapes Go.WideShapes Go.ChangeAt Go.RowKit Go.Lib

/-- Block g holds the bytes l, from its head on, and they may be written. -/
def BRow (g : Nat) (l : List UInt8) (w : World) : Prop := g < w.heap.size ∧ ∀ j b, l[j]? = some b → w.cell? ⟨g, j, none⟩ = some (.int .u8 (b.toNat : Int)) ∧ w.frozen? ⟨g, j, none⟩ = false
theorem BRow.at {g : Nat} {l : List UInt8} {w : World} (h : BRow g l w) {j : Nat} (hj : j < l.length) : w.cell? ⟨g, j, none⟩ = some (.int .u8 (l[j].toNat : Int)) ∧ w.frozen? ⟨g, j, none⟩ = false := h.2 j _ (List.getElem?_eq_getElem hj)

/-- '[]byte(s)'. -/
theorem BRow.made (s : ByteArray) (w : World) : ∃ (cap : Nat) (w0 : World), s.size ≤ cap ∧ (convert 9 46 (.string s)).run Try.prog w = .ok (.slice (some ⟨w.heap.size, 0, none⟩) s.size cap) w0 ∧ BRow w.heap.size s.data.toList w0 ∧ Below w.heap.size w w0 := by
  refine ⟨_, _, ?_, run_bytes_of_string w 9 46 5 s Try.underlying9 Try.underlying46 Try.underlying5, ⟨?_, fun j b hb => ?_⟩, ?_⟩
  · have := grownCap_ge w s.size 0 5
    omega
  · show w.heap.size < (w.drew.heap.push _).size
    simp
  · obtain ⟨hj, rfl⟩ := List.getElem?_eq_some_iff.1 hb
    constructor
    · have := World.cell?_alloc_mark w.drew (bytesRow s (grownCap w s.size 0 5)) 5 ((bytesRow s (grownCap w s.size 0 5)).size, (bytesRow s (grownCap w s.size 0 5)).size + 1) j
      rw [show w.drew.heap.size = w.heap.size from rfl] at this
      rw [this, bytesRow_at s _ j (by simpa using hj)]
      simp
    · have := World.frozen?_alloc_mark w.drew (bytesRow s (grownCap w s.size 0 5)) 5 (bytesRow s (grownCap w s.size 0 5)).size ((bytesRow s (grownCap w s.size 0 5)).size + 1) j
      rw [show w.drew.heap.size = w.heap.size from rfl] at this
      have hs : j < s.data.size := by simpa using hj
      have hb : s.data.size ≤ (bytesRow s (grownCap w s.size 0 5)).size := by unfold bytesRow; simp
      rw [this]
      simp
      omega
  · exact (Below.refl _ _).drew.alloc (Nat.le_refl _) _

/-- 'string(b)'. -/
theorem BRow.back {g n cap : Nat} {l : List UInt8} {w : World} (h : BRow g l w) (hn : l.length = n) : (convert 46 9 (.slice (some ⟨g, 0, none⟩) n cap)).run Try.prog w = .ok (.string ⟨l.toArray⟩) w := by
  subst hn
  refine run_convert_bytes_back w 46 9 5 ⟨g, 0, none⟩ cap l Try.underlying46 Try.underlying5 Try.underlying9 ?_
  intro j hj
  rw [addr_at]
  exact (h.at hj).1

/-- The bytes d over the head of the bytes l. -/
def over (d l : List UInt8) : List UInt8 := d ++ l.drop d.length
theorem over_len {d l : List UInt8} (h : d.length ≤ l.length) : (over d l).length = l.length := by simp [over]; omega
theorem over_at (d l : List UInt8) (j : Nat) : (over d l)[j]? = if j < d.length then d[j]? else l[j]? := by
  unfold over
  rw [List.getElem?_append]
  by_cases hd : j < d.length
  · rw [if_pos hd, if_pos hd]
  · rw [if_neg hd, if_neg hd, List.getElem?_drop]
    congr 1
    omega
theorem setCells_size (b : Nat) : ∀ (vs : List Value) (o : Nat) (w : World), (w.setCells b o vs).heap.size = w.heap.size
  | [], _, _ => rfl
  | v :: r, o, w => by rw [World.setCells, setCells_size b r]; simp
theorem BRow.copied {g : Nat} {l : List UInt8} {w : World} (h : BRow g l w) (d : List UInt8) (hd : d.length ≤ l.length) : BRow g (over d l) (w.setCells g 0 (d.map fun x => Value.int .u8 (x.toNat : Int))) := by
  refine ⟨by rw [setCells_size]; exact h.1, fun j b hb => ?_⟩
  rw [over_at] at hb
  rw [World.frozen?_setCells]
  by_cases c : j < d.length
  · rw [if_pos c] at hb
    have := World.cell?_setCells_in g (d.map fun x => Value.int .u8 (x.toNat : Int)) 0 w (fun i hi => by
      simp at hi
      rw [Nat.zero_add, (h.at (by omega)).1]; rfl) j (by simpa using c)
    rw [Nat.zero_add] at this
    refine ⟨?_, (h.at (by omega)).2⟩
    rw [this]
    obtain ⟨_, rfl⟩ := List.getElem?_eq_some_iff.1 hb
    simp
  · rw [if_neg c] at hb
    rw [World.cell?_setCells_out g _ 0 w _ (fun _ _ => .inr (by simp; omega))]
    exact h.2 j b hb

/-- A sector whose first n bytes are those of d. -/
def torn (s d : ByteArray) (n : Nat) : ByteArray := ⟨(over (d.data.toList.take n) s.data.toList).toArray⟩
theorem bytes_size (s : ByteArray) : s.data.toList.length = s.size := by rw [Array.length_toList]; rfl
theorem extract_list (s : ByteArray) (n : Nat) : (s.extract 0 n).data.toList = s.data.toList.take n := by simp [ByteArray.data_extract]
theorem torn_size {s d : ByteArray} {n : Nat} (h : n ≤ s.size) : (torn s d n).size = s.size := by
  have := bytes_size s
  have := over_len (d := d.data.toList.take n) (l := s.data.toList) (by simp; omega)
  unfold torn
  simp only [ByteArray.size, List.size_toArray]
  rw [this]; simp

/-- A text is returned; nothing that lay has turned. -/
def TextB (s : ByteArray) (w : World) (e : Ending) (w' : World) : Prop := e = .returned (.string s) ∧ Below w.heap.size w w'

set_option maxHeartbeats 1000000 in
set_option maxRecDepth 100000 in
theorem tear_any (s d : ByteArray) (n : Nat) (w : World) (hs : s.size = 64) (hd : d.size = 64) (h1 : 0 < n) (h2 : n < 64) : Calls Try.prog 44 #[.string s, .string d, .int .i64 n] w (TextB (torn s d n) w) := by
  obtain ⟨cap, w0, hcap, hconv, hrow, hbe⟩ := BRow.made s w
  have hds : (d.extract 0 n).size = n := by rw [ByteArray.size_extract]; omega
  have hsl := bytes_size s
  have hcp := run_copy_string (P := Try.prog) w0 46 9 3 5 w.heap.size 0 s.size cap (d.extract 0 n) Try.underlying46 (fun w => Try.sizeOf5 w) (by omega)
    (fun j hj => by rw [Nat.zero_add, (hrow.at (by omega)).1]; rfl) (fun j hj => by rw [Nat.zero_add]; exact (hrow.at (by omega)).2)
  have hrow' := hrow.copied (d.extract 0 n).data.toList (by rw [bytes_size]; omega)
  have hback := hrow'.back (n := s.size) (cap := cap) (by rw [over_len (by rw [bytes_size]; omega)]; omega)
  have HT : Hid ((⟨(over (d.extract 0 n).data.toList s.data.toList).toArray⟩ : ByteArray) = torn s d n) := by unfold Hid torn; rw [extract_list]
  have HB := Lib.hid (below_setCells (B := w.heap.size) (b := w.heap.size) (Nat.le_refl _) ((d.extract 0 n).data.toList.map fun x => Value.int .u8 (x.toNat : Int)) 0 w0 hbe)
  generalize (⟨(over (d.extract 0 n).data.toList s.data.toList).toArray⟩ : ByteArray) = r at hback HT
  generalize w0.setCells w.heap.size 0 ((d.extract 0 n).data.toList.map fun x => Value.int .u8 (x.toNat : Int)) = w1 at hcp hback HB
  rw [hs] at hconv hcp hback
  clear hrow hrow' hbe
  go_enter Try.func44, Try.ntmps44
  go_wp2_with (at_builtin; refine Lib.wpList_copy_run _ rfl _ _ 46 9 rfl _ _ rfl rfl hcp ?_)
  go_ret
  exact ⟨by rw [← HT.out]; rfl, HB.out⟩
end Go.Proofs.Ytndakbjmahkjdaa.Disk

/-
  Contracts of Crash and Flush (package disk): the writes whose bits are set are kept, the last one that is not is torn.
-/
namespace Go.Proofs.Ytndakbjmahkjdaa.Disk
open Go.ChangeShapes Go.WideShapes Go.ChangeAt Go.RowKit Go.Lib

/-- Write number k, or none. -/
def wat (ws : List (Int × ByteArray)) (k : Nat) : Int × ByteArray := ws.getD k (0, ⟨#[]⟩)
theorem wat_at {ws : List (Int × ByteArray)} {k : Nat} (h : k < ws.length) : wat ws k = ws[k] := by simp [wat, List.getD, List.getElem?_eq_getElem h]
/-- The sectors, those of the first k writes kept whose bits are set. -/
def keepTo (kp : Nat) (ls : List ByteArray) (ws : List (Int × ByteArray)) : Nat → List ByteArray
  | 0 => ls
  | k + 1 => if bitB kp k = true then (keepTo kp ls ws k).set (wat ws k).1.toNat (wat ws k).2 else keepTo kp ls ws k
theorem keepTo_len (kp : Nat) (ls : List ByteArray) (ws : List (Int × ByteArray)) : ∀ k, (keepTo kp ls ws k).length = ls.length
  | 0 => rfl
  | k + 1 => by
    unfold keepTo
    split
    · rw [List.length_set, keepTo_len kp ls ws k]
    · exact keepTo_len kp ls ws k
/-- The last of n whose bit is not set. -/
def lostO (kp : Nat) : Nat → Option Nat
  | 0 => none
  | n + 1 => if bitB kp n = true then lostO kp n else some n
theorem lostO_of {kp : Nat} : ∀ {n : Nat} {o : Option Nat}, LastLost kp n o → o = lostO kp n
  | 0, none, _ => rfl
  | 0, some r, h => by simp [LastLost] at h
  | n + 1, none, h => by
    have hn := h n (by omega)
    unfold lostO
    rw [if_pos hn]
    exact lostO_of (fun j hj => h j (by omega))
  | n + 1, some r, h => by
    obtain ⟨h1, h2, h3⟩ := h
    unfold lostO
    by_cases hr : r = n
    · subst hr; rw [if_neg (by rw [h2]; simp)]
    · rw [if_pos (h3 n (by omega) (by omega))]
      exact lostO_of ⟨by omega, h2, fun j hj hj' => h3 j hj (by omega)⟩
theorem lostO_lt {kp : Nat} : ∀ {n r : Nat}, lostO kp n = some r → r < n
  | n + 1, r, h => by
    unfold lostO at h
    split at h
    · have := lostO_lt h; omega
    · cases h; omega
/-- The sectors behind the crash. -/
def crashL (kp : Nat) (ls : List ByteArray) (ws : List (Int × ByteArray)) (t : Int) : List ByteArray :=
  match lostO kp ws.length with
  | none => keepTo kp ls ws ws.length
  | some r => if 0 < t ∧ t < 64 then (keepTo kp ls ws ws.length).set (wat ws r).1.toNat (torn ((keepTo kp ls ws ws.length).getD (wat ws r).1.toNat ⟨#[]⟩) (wat ws r).2 t.toNat) else keepTo kp ls ws ws.length

/-- A slice's block lies at B or behind it. -/
def From (B : Nat) (v : Value) : Prop := ∀ g o n cap, v = .slice (some ⟨g, o, none⟩) n cap → B ≤ g
theorem from_nil (B : Nat) : From B (.slice none 0 0) := fun _ _ _ _ h => by cases h
theorem from_some {B g n cap : Nat} (h : B ≤ g) : From B (.slice (some ⟨g, 0, none⟩) n cap) := fun _ _ _ _ e => by cases e; exact h
theorem From.mono {B C : Nat} {v : Value} (h : From B v) (hc : C ≤ B) : From C v := fun g o n cap e => Nat.le_trans hc (h g o n cap e)
/-- A disk in new blocks, and an error's number, are returned. -/
def DiskE (ls : List ByteArray) (ws : List (Int × ByteArray)) (k : Int) (w : World) (e : Ending) (w' : World) : Prop :=
  ∃ vS vW, e = .returned (.tuple #[.agg #[vS, vW], .int .i64 k]) ∧ (SRow w' vS ls ∧ From w.heap.size vS) ∧ (WRow w' vW ws ∧ From w.heap.size vW) ∧ Below w.heap.size w w'

theorem OwnS.at {B : Nat} {a : Option Addr} {n cap : Nat} {ls : List ByteArray} {w : World} (h : OwnS B (.slice a n cap) ls w) {i : Nat} (hi : i < ls.length) :
    ∃ g, a = some ⟨g, 0, none⟩ ∧ B ≤ g ∧ g < w.heap.size ∧ w.cell? ⟨g, i, none⟩ = some (.string ls[i]) ∧ w.frozen? ⟨g, i, none⟩ = false := by
  have hw := h
  obtain ⟨_, ⟨hv, h2⟩ | ⟨g, cap', cur, hv, hg, hh, hn, _, hc, _⟩⟩ := h
  · omega
  · cases hv
    have hlt : g < w.heap.size := (Array.getElem?_eq_some_iff.1 hh).1
    refine ⟨g, rfl, hg, hlt, ?_, ?_⟩
    · have := World.ownsRow.cells hw (g := g) rfl i (.string ls[i]) (scells_at hi)
      rwa [addr_at] at this
    · simp [World.frozen?, hh]
theorem OwnS.set {B g n cap : Nat} {ls : List ByteArray} {w : World} (h : OwnS B (.slice (some ⟨g, 0, none⟩) n cap) ls w) {i : Nat} (t : ByteArray) :
    OwnS B (.slice (some ⟨g, 0, none⟩) n cap) (ls.set i t) (w.setCell ⟨g, i, none⟩ (.string t)) := by
  obtain ⟨h0, ⟨hv, h2⟩ | ⟨g', cap', cur, hv, hg, hh, hn, hm, hc, ht⟩⟩ := h
  · cases hv
  · cases hv
    rw [Nat.mul_one] at ht
    refine ⟨by rw [scells_len, List.length_set]; omega, .inr ⟨g, cap, cur.setIfInBounds i (.string t), by rw [List.length_set], hg, ?_, by rw [List.length_set]; exact hn, hm, by simpa using hc, ?_⟩⟩
    · rw [setCell_eq_setRow w g i cur 9 (0, 0) (.string t) hh]
      exact setRow_heap w g cur _ 9 _ hh
    · rw [List.length_set, Nat.mul_one, Array.toList_setIfInBounds, List.take_set, ht]
      simp [scells, List.map_set]
theorem OwnS.below {B : Nat} {v : Value} {ls : List ByteArray} {w w' : World} (h : OwnS B v ls w) (hb : Below w.heap.size w w') : OwnS B v ls w' := by
  obtain ⟨h0, h1 | ⟨g, cap, cur, hv, hg, hh, hrest⟩⟩ := h
  · exact ⟨h0, .inl h1⟩
  · exact ⟨h0, .inr ⟨g, cap, cur, hv, hg, (hb.block g (Array.getElem?_eq_some_iff.1 hh).1).trans hh, hrest⟩⟩
theorem Box2.other {b g i : Nat} {c0 c1 : Value} {w : World} (h : Box2 b c0 c1 w) (hne : b ≠ g) (u : Value) : Box2 b c0 c1 (w.setCell ⟨g, i, none⟩ u) := by
  obtain ⟨h0, h1, h2, h3, h4⟩ := h
  have n0 : (⟨g, i, none⟩ : Addr) ≠ ⟨b, 0, none⟩ := by intro e; injection e; omega
  have n1 : (⟨g, i, none⟩ : Addr) ≠ ⟨b, 1, none⟩ := by intro e; injection e; omega
  refine ⟨by simpa using h0, ?_, ?_, ?_, ?_⟩
  · rw [World.cell?_setCell_other _ _ _ _ n0]; exact h1
  · rw [World.cell?_setCell_other _ _ _ _ n1]; exact h2
  · rw [World.frozen?_setCell]; exact h3
  · rw [World.frozen?_setCell]; exact h4

/-- The blocks of a function that takes a disk and returns one. -/
def D2 (w : World) (vS vW : Value) (W : World) : Prop := Box2 w.heap.size vS vW W ∧ Box2 (w.heap.size + 1) (.slice none 0 0) (.slice none 0 0) W ∧ Below w.heap.size w W
theorem D2.below {w W W' : World} {vS vW : Value} (h : D2 w vS vW W) (hb : Below W.heap.size W W') : D2 w vS vW W' := ⟨h.1.below hb, h.2.1.below hb, below_trans h.2.2 hb⟩
def d2W (w : World) (vS vW : Value) : World := (w.alloc (.cells #[vS, vW] 25)).alloc (.cells #[.slice none 0 0, .slice none 0 0] 25)
theorem D2.made (w : World) (vS vW : Value) : D2 w vS vW (d2W w vS vW) := by
  have h1 : ∀ (W : World) o, Below W.heap.size W (W.alloc o) := fun W o => (Below.refl _ _).alloc (Nat.le_refl _) _
  have b1 := Box2.made w vS vW 25
  have b2 := Box2.made (w.alloc (.cells #[vS, vW] 25)) (.slice none 0 0) (.slice none 0 0) 25
  simp only [World.size_alloc] at b2
  exact ⟨b1.below (h1 _ _), b2, below_trans (h1 _ _) (h1 _ _)⟩
def d2St (w W : World) (u0 u1 : Value) : World := (W.setCell ⟨w.heap.size + 1, 0, none⟩ u0).setCell ⟨w.heap.size + 1, 1, none⟩ u1
theorem D2.stored {w W : World} {vS vW : Value} (h : D2 w vS vW W) (u0 u1 : Value) :
    Box2 (w.heap.size + 1) u0 u1 (d2St w W u0 u1) ∧ Below w.heap.size w (d2St w W u0 u1) :=
  ⟨h.2.1.set u0 u1, (h.2.2.setCell (p := ⟨w.heap.size + 1, 0, none⟩) (by simp) _).setCell (p := ⟨w.heap.size + 1, 1, none⟩) (by simp) _⟩
theorem SRow.setBelow {w : World} {b i : Nat} {v u : Value} {ls : List ByteArray} (h : SRow w v ls) (hne : ∀ g n cap, v = .slice (some ⟨g, 0, none⟩) n cap → g ≠ b) : SRow (w.setCell ⟨b, i, none⟩ u) v ls := by
  rcases h with h | ⟨g, cap, rfl, hc, hg, hcell⟩
  · exact .inl h
  · have hn := hne g _ _ rfl
    exact .inr ⟨g, cap, rfl, hc, by simpa using hg, fun j hj => by
      rw [World.cell?_setCell_other _ _ _ _ (by intro e; injection e; omega)]; exact hcell j hj⟩
theorem OwnS.setBelow {w : World} {B b i : Nat} {v u : Value} {ls : List ByteArray} (h : OwnS B v ls w) (hb : b < B) : OwnS B v ls (w.setCell ⟨b, i, none⟩ u) := by
  obtain ⟨h0, h1 | ⟨g, cap, cur, hv, hg, hh, hrest⟩⟩ := h
  · exact ⟨h0, .inl h1⟩
  · exact ⟨h0, .inr ⟨g, cap, cur, hv, hg, (Below.heap_setCell _ _ _ g (by simp; omega)).trans hh, hrest⟩⟩

set_option maxHeartbeats 1000000 in
set_option maxRecDepth 100000 in
theorem Crash_bad {vS vW : Value} {ls : List ByteArray} {ws : List (Int × ByteArray)} {w : World} (hS : SRow w vS ls) (hW : WRow w vW ws) (hr : smallP ls ws) (hb : rightB ls ws = false) (kp : Nat) (t : Int) : Calls Try.prog 21 #[.agg #[vS, vW], .int .u64 kp, .int .i64 t] w (DiskE [] [] 1 w) := by
  have HR := Lib.hid (fun W (h : Below w.heap.size w W) => hb ▸ Right_any (hS.below h) (hW.below h) hr)
  obtain ⟨aS, cap, rfl⟩ := hS.slice
  obtain ⟨aW, capW, rfl⟩ := hW.slice
  have HD := Lib.hid (D2.made w (.slice aS ls.length cap) (.slice aW ws.length capW))
  clear hS hW
  go_enter Try.func21, Try.ntmps21
  go_wp2_with fail
  refine (HR.out _ HD.out.2.2).mono ?_
  rintro e x ⟨rfl, hx⟩
  have HX := Lib.hid (HD.out.below hx)
  obtain ⟨⟨b0, b1, b2, b3, b4⟩, ⟨d0, d1, d2, d3, d4⟩, _⟩ := HX.out
  have HZ := Lib.hid (HX.out.stored (.slice none 0 0) (.slice none 0 0))
  clear hx HD
  go_wp2_with fail
  obtain ⟨⟨z0, z1, z2, _⟩, zb⟩ := HZ.out
  unfold d2St at z1 z2
  exact bodyPost_ret (v := .tuple #[.agg #[.slice none 0 0, .slice none 0 0], .int .i64 1]) (by simp [results, Try.results21, go_sem, z1, z2]) rfl ⟨_, _, rfl, ⟨.inl ⟨rfl, rfl⟩, from_nil _⟩, ⟨.inl ⟨rfl, rfl⟩, from_nil _⟩, zb⟩

/-- What holds at the head of Crash's loop. -/
def Keeping (w : World) (B kp : Nat) (vS vW : Value) (v : Value) (ls : List ByteArray) (ws : List (Int × ByteArray)) (i : Value) (wr : World) : Prop :=
  ∃ k : Nat, k ≤ ws.length ∧ i = .int .i64 k ∧ D2 w vS vW wr ∧ OwnS B v (keepTo kp ls ws k) wr

theorem keep_step {w wr : World} {B g cap n kp : Nat} {vS vW : Value} {ls : List ByteArray} {ws : List (Int × ByteArray)} {k a : Nat} {d : ByteArray} (hB : w.heap.size + 1 < B) (hg : B ≤ g)
    (hD : D2 w vS vW wr) (hO : OwnS B (.slice (some ⟨g, 0, none⟩) n cap) (keepTo kp ls ws k) wr) (hk : k < ws.length) (ha : ws[k] = ((a : Int), d)) (hb : bitB kp k = true) (o : Obj) :
    D2 w vS vW ((wr.setCell ⟨g, a, none⟩ (.string d)).alloc o) ∧ OwnS B (.slice (some ⟨g, 0, none⟩) n cap) (keepTo kp ls ws (k + 1)) ((wr.setCell ⟨g, a, none⟩ (.string d)).alloc o) := by
  have h1 : ∀ (W : World) o, Below W.heap.size W (W.alloc o) := fun W o => (Below.refl _ _).alloc (Nat.le_refl _) _
  have e : keepTo kp ls ws (k + 1) = (keepTo kp ls ws k).set a d := by
    show (if bitB kp k = true then _ else _) = _
    rw [if_pos hb, wat_at hk, ha]
    rfl
  rw [e]
  refine ⟨D2.below ⟨hD.1.other (by omega) _, hD.2.1.other (by omega) _, hD.2.2.setCell (p := ⟨g, a, none⟩) (by simp; omega) _⟩ (h1 _ _), (hO.set d).below (h1 _ _)⟩

/-- Behind tear, and the store of what it returned. -/
theorem tear_step {w X x2 : World} {B g zb cap n a : Nat} {vS vW c0 c1 : Value} {L : List ByteArray} {r : ByteArray} (hB : w.heap.size + 1 < B) (hg : B ≤ g) (hgz : g ≠ zb) (hX : Box2 zb c0 c1 X) (hD : D2 w vS vW X)
    (hO : OwnS B (.slice (some ⟨g, 0, none⟩) n cap) L X) (ha : a < L.length) (hx : Below X.drew.heap.size X.drew x2) :
    (x2.cell? ⟨zb, 0, none⟩ = some c0 ∧ x2.cell? ⟨zb, 1, none⟩ = some c1 ∧ g < x2.heap.size ∧ x2.cell? ⟨g, a, none⟩ = some (.string L[a]) ∧ x2.frozen? ⟨g, a, none⟩ = false ∧
      (x2.setCell ⟨g, a, none⟩ (.string r)).cell? ⟨zb, 0, none⟩ = some c0 ∧ (x2.setCell ⟨g, a, none⟩ (.string r)).cell? ⟨zb, 1, none⟩ = some c1) ∧
    D2 w vS vW (x2.setCell ⟨g, a, none⟩ (.string r)) ∧ OwnS B (.slice (some ⟨g, 0, none⟩) n cap) (L.set a r) (x2.setCell ⟨g, a, none⟩ (.string r)) := by
  have h : Below X.heap.size X x2 := below_trans ((Below.refl _ X).drew) hx
  have h1 := hX.below h
  have h2 := hD.below h
  have h3 := hO.below h
  have h4 := h1.other (i := a) (g := g) (Ne.symm hgz) (.string r)
  obtain ⟨g', e, _, hg2, hc, hf⟩ := h3.at ha
  cases e
  exact ⟨⟨h1.2.1, h1.2.2.1, hg2, hc, hf, h4.2.1, h4.2.2.1⟩, ⟨h2.1.other (by omega) _, h2.2.1.other (by omega) _, h2.2.2.setCell (p := ⟨g, a, none⟩) (by simp; omega) _⟩, h3.set r⟩

theorem keepTo_size {kp : Nat} {ls : List ByteArray} {ws : List (Int × ByteArray)} (hP : rightP ls ws) : ∀ (k : Nat) {a : Nat} (_ : k ≤ ws.length) (h : a < (keepTo kp ls ws k).length), ((keepTo kp ls ws k)[a]).size = 64
  | 0, a, _, h => hP.2.2.2.1 a h
  | k + 1, a, hk, h => by
    have hk' : k < ws.length := by omega
    by_cases hb : bitB kp k = true
    · have e : keepTo kp ls ws (k + 1) = (keepTo kp ls ws k).set (wat ws k).1.toNat (wat ws k).2 := if_pos hb
      have h' : a < ((keepTo kp ls ws k).set (wat ws k).1.toNat (wat ws k).2).length := by rw [← e]; exact h
      have e2 : (keepTo kp ls ws (k + 1))[a] = ((keepTo kp ls ws k).set (wat ws k).1.toNat (wat ws k).2)[a] := by simp only [e]
      rw [e2, List.getElem_set]
      split
      · rw [wat_at hk']; exact (hP.2.2.2.2 k hk').2.2
      · exact keepTo_size hP k (by omega) _
    · have e : keepTo kp ls ws (k + 1) = keepTo kp ls ws k := if_neg hb
      have e2 : (keepTo kp ls ws (k + 1))[a] = (keepTo kp ls ws k)[a]'(by rw [← e]; exact h) := by simp only [e]
      rw [e2]
      exact keepTo_size hP k (by omega) _

theorem skip_step {w wr : World} {B kp : Nat} {vS vW v : Value} {ls : List ByteArray} {ws : List (Int × ByteArray)} {k : Nat}
    (hD : D2 w vS vW wr) (hO : OwnS B v (keepTo kp ls ws k) wr) (hb : ¬ bitB kp k = true) (o : Obj) :
    D2 w vS vW (wr.alloc o) ∧ OwnS B v (keepTo kp ls ws (k + 1)) (wr.alloc o) := by
  have h1 : Below wr.heap.size wr (wr.alloc o) := (Below.refl _ _).alloc (Nat.le_refl _) _
  have e : keepTo kp ls ws (k + 1) = keepTo kp ls ws k := by
    show (if bitB kp k = true then _ else _) = _
    rw [if_neg hb]
  rw [e]
  exact ⟨hD.below h1, hO.below h1⟩

theorem crash_end0 {w z : World} {B : Nat} {vS vW v : Value} {L : List ByteArray} (hB : w.heap.size + 1 < B) (hD : D2 w vS vW z) (hO : OwnS B v L z) :
    w.heap.size + 1 < (d2St w z v (.slice none 0 0)).heap.size ∧ (d2St w z v (.slice none 0 0)).cell? ⟨w.heap.size + 1, 0, none⟩ = some v ∧ (d2St w z v (.slice none 0 0)).cell? ⟨w.heap.size + 1, 1, none⟩ = some (.slice none 0 0) ∧
    SRow (d2St w z v (.slice none 0 0)) v L ∧ Below w.heap.size w (d2St w z v (.slice none 0 0)) := by
  obtain ⟨⟨c0, c1, c2, _⟩, hbe⟩ := hD.stored v (.slice none 0 0)
  exact ⟨c0, c1, c2, OwnS.row ((hO.setBelow (b := w.heap.size + 1) hB).setBelow (b := w.heap.size + 1) hB), hbe⟩
theorem crash_end {w z : World} {B : Nat} {vS vW v : Value} {L : List ByteArray} (hB : w.heap.size + 1 < B) (hD : D2 w vS vW z) (hO : OwnS B v L z) (o : Obj) :
    w.heap.size + 1 < ((d2St w z v (.slice none 0 0)).alloc o).heap.size ∧ ((d2St w z v (.slice none 0 0)).alloc o).cell? ⟨w.heap.size + 1, 0, none⟩ = some v ∧ ((d2St w z v (.slice none 0 0)).alloc o).cell? ⟨w.heap.size + 1, 1, none⟩ = some (.slice none 0 0) ∧
    SRow ((d2St w z v (.slice none 0 0)).alloc o) v L ∧ Below w.heap.size w ((d2St w z v (.slice none 0 0)).alloc o) := by
  have h1 : ∀ (W : World) o, Below W.heap.size W (W.alloc o) := fun W o => (Below.refl _ _).alloc (Nat.le_refl _) _
  obtain ⟨hb, hbe⟩ := hD.stored v (.slice none 0 0)
  obtain ⟨c0, c1, c2, _⟩ := hb.below (h1 _ o)
  exact ⟨c0, c1, c2, (OwnS.row ((hO.setBelow (b := w.heap.size + 1) hB).setBelow (b := w.heap.size + 1) hB)).below (h1 _ _), below_trans hbe (h1 _ _)⟩

/-- Behind the tear. -/
def TornB (w : World) (B : Nat) (vS vW v : Value) (L : List ByteArray) (W : World) : Prop := D2 w vS vW W ∧ OwnS B v L W

set_option maxHeartbeats 4000000 in
set_option maxRecDepth 100000 in
theorem Crash_yes {vS vW : Value} {ls : List ByteArray} {ws : List (Int × ByteArray)} {w : World} (hS : SRow w vS ls) (hW : WRow w vW ws) (hb : rightB ls ws = true) (kp : Nat) (hkp : kp < 18446744073709551616) (t : Int) : Calls Try.prog 21 #[.agg #[vS, vW], .int .u64 kp, .int .i64 t] w (DiskE (crashL kp ls ws t) [] 0 w) := by
  have hP := rightB_t.1 hb
  have hr : smallP ls ws := ⟨by have := hP.2.1; omega, by have := hP.2.2.1; omega, fun j h => by rw [hP.2.2.2.1 j h]; omega, fun j h => by rw [(hP.2.2.2.2 j h).2.2]; omega⟩
  have HR := Lib.hid (fun W (h : Below w.heap.size w W) => hb ▸ Right_any (hS.below h) (hW.below h) hr)
  have HC := Lib.hid (fun W (h : Below w.heap.size w W) => CloneS_any (hS.below h) hr.1)
  have HL := Lib.hid (fun W (h : Below w.heap.size w W) => lastLost_any (hW.below h) hr.2.1 kp hkp)
  obtain ⟨aS, cap, rfl⟩ := hS.slice
  obtain ⟨aW, capW, rfl⟩ := hW.slice
  have HD := Lib.hid (D2.made w (.slice aS ls.length cap) (.slice aW ws.length capW))
  have HW := Lib.hid hW
  have HP := Lib.hid hP
  have hl1 := hP.1
  have hl2 := hP.2.1
  have hl3 := hP.2.2.1
  clear hS hW hP
  go_enter Try.func21, Try.ntmps21
  go_wp2_with fail
  refine (HR.out _ HD.out.2.2).mono ?_
  rintro e x ⟨rfl, hx⟩
  have HX := Lib.hid (HD.out.below hx)
  obtain ⟨⟨b0, b1, b2, b3, b4⟩, ⟨d0, d1, d2, d3, d4⟩, _⟩ := HX.out
  clear hx HD
  go_wp2_with fail
  refine (HC.out _ HX.out.2.2).mono ?_
  rintro e y ⟨v, rfl, hown, hy⟩
  obtain ⟨av, capv, rfl⟩ := hown.row.slice
  obtain ⟨g, rfl, hgB, hgy, _, _⟩ := hown.at (i := 0) (by omega)
  have HY := Lib.hid (HX.out.below hy)
  have HO := Lib.hid hown
  clear b0 b1 b2 b3 b4 d0 d1 d2 d3 d4 hown
  have hB : w.heap.size + 1 < x.heap.size := HX.out.2.1.1
  generalize x.heap.size = B at hB hgB HO
  clear HX hy
  obtain ⟨⟨b0, b1, b2, b3, b4⟩, ⟨d0, d1, d2, d3, d4⟩, _⟩ := HY.out
  go_wp2_with fail
  go_loopw [23] (fun i wr => Keeping w B kp (.slice aS ls.length cap) (.slice aW ws.length capW) (.slice (some ⟨g, 0, none⟩) ls.length capv) ls ws i wr) (fun i _ => ws.length - (RowKit.intOf i).toNat)
  case atStart => exact ⟨0, Nat.zero_le _, rfl, HY.out, HO.out⟩
  case round =>
    obtain ⟨k, hk, rfl, hD, hO⟩ := hrel
    clear b0 b1 b2 b3 b4 d0 d1 d2 d3 d4 HY HO
    have HD := Lib.hid hD
    have HO := Lib.hid hO
    obtain ⟨⟨b0, b1, b2, b3, b4⟩, ⟨d0, d1, d2, d3, d4⟩, hbe⟩ := hD
    clear hO
    by_cases hlt : k < ws.length
    · obtain ⟨gw, rfl, hcw, hgw, c1, c2⟩ := (HW.out.below hbe).at hlt
      obtain ⟨y1, y2, y3⟩ := HP.out.2.2.2.2 k hlt
      obtain ⟨a, d, ha⟩ : ∃ (a : Nat) (d : ByteArray), ws[k] = ((a : Int), d) := ⟨ws[k].1.toNat, ws[k].2, by rw [Int.toNat_of_nonneg y1]⟩
      have HA := Lib.hid ha
      rw [ha] at c1 c2 y1 y2 y3
      dsimp only at c1 c2 y1 y2 y3
      have hal : a < ls.length := by omega
      obtain ⟨g', e, _, hgr, cg, fg⟩ := HO.out.at (i := a) (by rw [keepTo_len]; exact hal)
      cases e
      have HI := Lib.hid (fun W => isKept_any kp k hkp W)
      clear hbe ha
      generalize (keepTo kp ls ws k)[a]'(by rw [keepTo_len]; exact hal) = old at cg
      by_cases hbit : bitB kp k = true
      · have HS := Lib.hid (keep_step hB hgB HD.out HO.out hlt HA.out hbit (.cells #[.int .i64 a, .string d] 75))
        go_wp2_with (go_at_call 42; refine (HI.out _).mono ?_; rintro e w2 ⟨rfl, rfl⟩; rw [hbit])
        go_roundw
        case rel => exact ⟨k + 1, by omega, by go_num, HS.out⟩
        case measure => simp [RowKit.intOf]; omega
      · have HS := Lib.hid (skip_step HD.out HO.out hbit (.cells #[.int .i64 a, .string d] 75))
        go_wp2_with (go_at_call 42; refine (HI.out _).mono ?_; rintro e w2 ⟨rfl, rfl⟩; rw [Bool.eq_false_iff.2 hbit])
        go_roundw
        case rel => exact ⟨k + 1, by omega, by go_num, HS.out⟩
        case measure => simp [RowKit.intOf]; omega
    · obtain rfl : k = ws.length := by omega
      have HBE := Lib.hid hbe
      clear hbe
      go_wp2_with fail
      refine (HL.out _ HBE.out).mono ?_
      rintro e z ⟨o, ho, rfl, hz⟩
      obtain rfl := lostO_of ho
      have HDz := Lib.hid (HD.out.below hz)
      have HOz := Lib.hid (HO.out.below hz)
      clear b0 b1 b2 b3 b4 d0 d1 d2 d3 d4 hz HD HO HBE ho
      obtain ⟨⟨b0, b1, b2, b3, b4⟩, ⟨d0, d1, d2, d3, d4⟩, hbe⟩ := HDz.out
      rcases hlo : lostO kp ws.length with _ | r
      · have HL2 : Hid (crashL kp ls ws t = keepTo kp ls ws ws.length) := by unfold Hid crashL; rw [hlo]
        unfold lostV
        dsimp only
        have HE := Lib.hid (crash_end hB HDz.out HOz.out (.cells #[.int .i64 0, .string ⟨#[]⟩] 75))
        go_wp2_with fail
        obtain ⟨z0, z1, z2, z3, z4⟩ := HE.out
        unfold d2St at z0 z1 z2
        exact bodyPost_ret (v := .tuple #[.agg #[.slice (some ⟨g, 0, none⟩) ls.length capv, .slice none 0 0], .int .i64 0]) (by simp [results, Try.results21, go_sem, z1, z2]) rfl ⟨_, _, rfl, ⟨by rw [HL2.out]; exact z3, from_some (by omega)⟩, ⟨.inl ⟨rfl, rfl⟩, from_nil _⟩, z4⟩
      · have hrl : r < ws.length := lostO_lt hlo
        obtain ⟨y1, y2, y3⟩ := HP.out.2.2.2.2 r hrl
        obtain ⟨a, d, ha⟩ : ∃ (a : Nat) (d : ByteArray), wat ws r = ((a : Int), d) := ⟨ws[r].1.toNat, ws[r].2, by rw [Int.toNat_of_nonneg y1, wat_at hrl]⟩
        have ha' := ha
        rw [wat_at hrl] at ha'
        rw [ha'] at y1 y2 y3
        dsimp only at y1 y2 y3
        have hal : a < ls.length := by omega
        have hV : lostV ws (some r) = .tuple #[.agg #[.int .i64 a, .string d], .bool true] := by
          show Value.tuple #[.agg #[.int .i64 (wat ws r).1, .string (wat ws r).2], .bool true] = _
          rw [ha]
        rw [hV]
        by_cases ht : 0 < t ∧ t < 64
        · have HL2 : Hid (crashL kp ls ws t = (keepTo kp ls ws ws.length).set a (torn ((keepTo kp ls ws ws.length).getD a ⟨#[]⟩) d t.toNat)) := by
            unfold Hid crashL
            rw [hlo]
            dsimp only
            rw [if_pos ht, ha]
            rfl
          obtain ⟨tn, rfl⟩ : ∃ tn : Nat, t = tn := ⟨t.toNat, by omega⟩
          obtain ⟨t1, t2⟩ := ht
          clear ha ha' hV
          have hX : Below z.heap.size z (z.alloc (.cells #[.int .i64 a, .string d] 75)) := (Below.refl _ _).alloc (Nat.le_refl _) _
          have HBX := Lib.hid (Box2.made z (.int .i64 a) (.string d) 75)
          have HDX := Lib.hid (HDz.out.below hX)
          have HOX := Lib.hid (HOz.out.below hX)
          go_upto_region 12 with (fail)
          have hal' : a < (keepTo kp ls ws ws.length).length := by rw [keepTo_len]; exact hal
          have hgz : g ≠ z.heap.size := by
            obtain ⟨g', e, _, hgz, _⟩ := HOz.out.at hal'
            cases e
            omega
          clear b0 b1 b2 b3 b4 d0 d1 d2 d3 d4 hbe hX HDz HOz
          generalize (z.alloc (.cells #[.int .i64 a, .string d] 75)) = X at HBX HDX HOX ⊢
          generalize z.heap.size = zb at HBX hgz ⊢
          obtain ⟨q0, q1, q2, _, _⟩ := HBX.out
          obtain ⟨g', e, _, hgX, cg, fg⟩ := HOX.out.at (i := a) (by rw [keepTo_len]; exact hal)
          cases e
          have hsz : ((keepTo kp ls ws ws.length)[a]'(by rw [keepTo_len]; exact hal)).size = 64 := keepTo_size HP.out _ (Nat.le_refl _) _
          have HGD : Hid ((keepTo kp ls ws ws.length).getD a ⟨#[]⟩ = (keepTo kp ls ws ws.length)[a]'(by rw [keepTo_len]; exact hal)) := by
            unfold Hid
            rw [List.getD, List.getElem?_eq_getElem (by rw [keepTo_len]; exact hal)]
            rfl
          generalize (keepTo kp ls ws ws.length)[a]'(by rw [keepTo_len]; exact hal) = old at cg hsz HGD
          have HT := Lib.hid (fun W => tear_any old d tn W hsz y3 (by omega) (by omega))
          go_cut [] from 54 to 66 (fun wx => TornB w B (.slice aS ls.length cap) (.slice aW ws.length capW) (.slice (some ⟨g, 0, none⟩) ls.length capv) ((keepTo kp ls ws ws.length).set a (torn old d tn)) wx)
          case first =>
            go_region_with (go_at_call 44; (with_reducible refine (HT.out _).mono ?_); rintro e x2 ⟨rfl, hx2⟩; have HTE := Lib.hid (tear_step (r := torn old d tn) hB hgB hgz HBX.out HDX.out HOX.out hal' hx2); obtain ⟨p1, p2, hg2, hc2, hf2, s1, s2⟩ := HTE.out.1)
            all_goals (try go_wp2_with fail)
            all_goals go_meet
            all_goals exact HTE.out.2
          case rest =>
            clear q0 q1 q2 cg fg hgX HT HBX HDX HOX
            have HE := Lib.hid (crash_end0 hB hcut.1 hcut.2)
            obtain ⟨⟨⟨b0, b1, b2, b3, b4⟩, ⟨d0, d1, d2, d3, d4⟩, hbe⟩, _⟩ := hcut
            clear hbe
            go_wp2_with fail
            obtain ⟨z0, z1, z2, z3, z4⟩ := HE.out
            unfold d2St at z0 z1 z2
            exact bodyPost_ret (v := .tuple #[.agg #[.slice (some ⟨g, 0, none⟩) ls.length capv, .slice none 0 0], .int .i64 0]) (by simp [results, Try.results21, go_sem, z1, z2]) rfl ⟨_, _, rfl, ⟨by rw [HL2.out, HGD.out]; exact z3, from_some (by omega)⟩, ⟨.inl ⟨rfl, rfl⟩, from_nil _⟩, z4⟩
        · have HL2 : Hid (crashL kp ls ws t = keepTo kp ls ws ws.length) := by
            unfold Hid crashL
            rw [hlo]
            dsimp only
            rw [if_neg ht]
          clear ha ha' hV
          have HE := Lib.hid (crash_end hB HDz.out HOz.out (.cells #[.int .i64 a, .string d] 75))
          by_cases ht1 : 0 < t
          · have ht2 : ¬ t < 64 := fun h => ht ⟨ht1, h⟩
            clear ht
            go_wp2_with fail
            obtain ⟨z0, z1, z2, z3, z4⟩ := HE.out
            unfold d2St at z0 z1 z2
            exact bodyPost_ret (v := .tuple #[.agg #[.slice (some ⟨g, 0, none⟩) ls.length capv, .slice none 0 0], .int .i64 0]) (by simp [results, Try.results21, go_sem, z1, z2]) rfl ⟨_, _, rfl, ⟨by rw [HL2.out]; exact z3, from_some (by omega)⟩, ⟨.inl ⟨rfl, rfl⟩, from_nil _⟩, z4⟩
          · clear ht
            go_wp2_with fail
            obtain ⟨z0, z1, z2, z3, z4⟩ := HE.out
            unfold d2St at z0 z1 z2
            exact bodyPost_ret (v := .tuple #[.agg #[.slice (some ⟨g, 0, none⟩) ls.length capv, .slice none 0 0], .int .i64 0]) (by simp [results, Try.results21, go_sem, z1, z2]) rfl ⟨_, _, rfl, ⟨by rw [HL2.out]; exact z3, from_some (by omega)⟩, ⟨.inl ⟨rfl, rfl⟩, from_nil _⟩, z4⟩

theorem SRow.stored {w : World} {b i : Nat} {v u : Value} {ls : List ByteArray} (h : SRow w v ls) (hf : From (b + 1) v) : SRow (w.setCell ⟨b, i, none⟩ u) v ls :=
  h.setBelow fun g n cap e => by have := hf g 0 n cap e; omega
theorem WRow.stored {w : World} {b i : Nat} {v u : Value} {ws : List (Int × ByteArray)} (h : WRow w v ws) (hf : From (b + 1) v) : WRow (w.setCell ⟨b, i, none⟩ u) v ws := by
  rcases h with h | ⟨g, cap, rfl, hc, hg, hcell⟩
  · exact .inl h
  · have hn := hf g 0 _ _ rfl
    exact .inr ⟨g, cap, rfl, hc, by simpa using hg, fun j hj => by
      rw [World.cell?_setCell_other _ _ _ _ (by intro e; injection e; omega), World.cell?_setCell_other _ _ _ _ (by intro e; injection e; omega)]; exact hcell j hj⟩
/-- What a call returned, stored into the caller's result. -/
theorem D2.ends {w W : World} {vS vW uS uW : Value} {l : List ByteArray} {m : List (Int × ByteArray)} (h : D2 w vS vW W) {B : Nat} (hB : w.heap.size + 2 ≤ B) (hS : SRow W uS l ∧ From B uS) (hW : WRow W uW m ∧ From B uW) :
    w.heap.size + 1 < (d2St w W uS uW).heap.size ∧ (d2St w W uS uW).cell? ⟨w.heap.size + 1, 0, none⟩ = some uS ∧ (d2St w W uS uW).cell? ⟨w.heap.size + 1, 1, none⟩ = some uW ∧
    (SRow (d2St w W uS uW) uS l ∧ From w.heap.size uS) ∧ (WRow (d2St w W uS uW) uW m ∧ From w.heap.size uW) ∧ Below w.heap.size w (d2St w W uS uW) := by
  obtain ⟨⟨c0, c1, c2, _⟩, hbe⟩ := h.stored uS uW
  have fS : From (w.heap.size + 1 + 1) uS := hS.2.mono hB
  have fW : From (w.heap.size + 1 + 1) uW := hW.2.mono hB
  exact ⟨c0, c1, c2, ⟨(hS.1.stored fS).stored fS, hS.2.mono (by omega)⟩, ⟨(hW.1.stored fW).stored fW, hW.2.mono (by omega)⟩, hbe⟩

set_option maxHeartbeats 1000000 in
set_option maxRecDepth 100000 in
/-- Flush is a crash that keeps all. -/
theorem Flush_of {vS vW : Value} {ls l : List ByteArray} {ws m : List (Int × ByteArray)} {w : World} {k : Int} (hS : SRow w vS ls) (hW : WRow w vW ws)
    (hC : ∀ W, Below w.heap.size w W → Calls Try.prog 21 #[.agg #[vS, vW], .int .u64 18446744073709551615, .int .i64 0] W (DiskE l m k W)) : Calls Try.prog 41 #[.agg #[vS, vW]] w (DiskE l m k w) := by
  have HC := Lib.hid hC
  obtain ⟨aS, cap, rfl⟩ := hS.slice
  obtain ⟨aW, capW, rfl⟩ := hW.slice
  have HD := Lib.hid (D2.made w (.slice aS ls.length cap) (.slice aW ws.length capW))
  clear hS hW hC
  go_enter Try.func41, Try.ntmps41
  go_wp2_with fail
  refine (HC.out _ HD.out.2.2).mono ?_
  rintro e x ⟨uS, uW, rfl, hS, hW, hx⟩
  have HX := Lib.hid (HD.out.below hx)
  have HE := Lib.hid (HX.out.ends (B := (d2W w (.slice aS ls.length cap) (.slice aW ws.length capW)).heap.size) (by simp [d2W]) hS hW)
  obtain ⟨aS', cap', rfl⟩ := hS.1.slice
  obtain ⟨aW', capW', rfl⟩ := hW.1.slice
  obtain ⟨⟨b0, b1, b2, b3, b4⟩, ⟨d0, d1, d2, d3, d4⟩, hbe⟩ := HX.out
  clear hS hW hx
  go_wp2_with fail
  obtain ⟨z0, z1, z2, z3⟩ := HE.out
  unfold d2St at z0 z1 z2
  exact bodyPost_ret (v := .tuple #[.agg #[.slice aS' l.length cap', .slice aW' m.length capW'], .int .i64 k]) (by simp [results, Try.results41, go_sem, z1, z2]) rfl ⟨_, _, rfl, z3⟩

theorem Flush_bad {vS vW : Value} {ls : List ByteArray} {ws : List (Int × ByteArray)} {w : World} (hS : SRow w vS ls) (hW : WRow w vW ws) (hr : smallP ls ws) (hb : rightB ls ws = false) : Calls Try.prog 41 #[.agg #[vS, vW]] w (DiskE [] [] 1 w) :=
  Flush_of hS hW fun _ h => Crash_bad (hS.below h) (hW.below h) hr hb 18446744073709551615 0
theorem Flush_yes {vS vW : Value} {ls : List ByteArray} {ws : List (Int × ByteArray)} {w : World} (hS : SRow w vS ls) (hW : WRow w vW ws) (hb : rightB ls ws = true) : Calls Try.prog 41 #[.agg #[vS, vW]] w (DiskE (crashL 18446744073709551615 ls ws 0) [] 0 w) :=
  Flush_of hS hW fun _ h => Crash_yes (hS.below h) (hW.below h) hb 18446744073709551615 (by omega) 0
end Go.Proofs.Ytndakbjmahkjdaa.Disk

/-
  Contract of Put (package disk): a write more, or refused.
-/
namespace Go.Proofs.Ytndakbjmahkjdaa.Disk
open Go.ChangeShapes Go.WideShapes Go.ChangeAt Go.RowKit Go.Lib

set_option maxHeartbeats 2000000 in
set_option maxRecDepth 100000 in
theorem Put_bad {vS vW : Value} {ls : List ByteArray} {ws : List (Int × ByteArray)} {w : World} (hS : SRow w vS ls) (hW : WRow w vW ws) (hr : smallP ls ws) (hb : rightB ls ws = false) (i : Int) (d : ByteArray) : Calls Try.prog 38 #[.agg #[vS, vW], .int .i64 i, .string d] w (DiskE [] [] 1 w) := by
  have HR := Lib.hid (fun W (h : Below w.heap.size w W) => hb ▸ Right_any (hS.below h) (hW.below h) hr)
  obtain ⟨aS, cap, rfl⟩ := hS.slice
  obtain ⟨aW, capW, rfl⟩ := hW.slice
  have HD := Lib.hid (D2.made w (.slice aS ls.length cap) (.slice aW ws.length capW))
  clear hS hW
  go_enter Try.func38, Try.ntmps38
  go_wp2_with fail
  refine (HR.out _ HD.out.2.2).mono ?_
  rintro e x ⟨rfl, hx⟩
  have HX := Lib.hid (HD.out.below hx)
  obtain ⟨⟨b0, b1, b2, b3, b4⟩, ⟨d0, d1, d2, d3, d4⟩, _⟩ := HX.out
  have HZ := Lib.hid (HX.out.stored (.slice none 0 0) (.slice none 0 0))
  clear hx HD
  go_wp2_with fail
  obtain ⟨⟨z0, z1, z2, _⟩, zb⟩ := HZ.out
  unfold d2St at z1 z2
  exact bodyPost_ret (v := .tuple #[.agg #[.slice none 0 0, .slice none 0 0], .int .i64 1]) (by simp [results, Try.results38, go_sem, z1, z2]) rfl ⟨_, _, rfl, ⟨.inl ⟨rfl, rfl⟩, from_nil _⟩, ⟨.inl ⟨rfl, rfl⟩, from_nil _⟩, zb⟩

/-- The error that Put tells of a disk that may be. -/
def putE (n m : Nat) (i : Int) (s : Nat) : Int := if hasB n i = false then 8 else if s ≠ 64 then 1 else if m = 64 then 7 else 0

set_option maxHeartbeats 2000000 in
set_option maxRecDepth 100000 in
theorem Put_no {vS vW : Value} {ls : List ByteArray} {ws : List (Int × ByteArray)} {w : World} (hS : SRow w vS ls) (hW : WRow w vW ws) (hr : smallP ls ws) (hb : rightB ls ws = true) (i : Int) (d : ByteArray) (hne : putE ls.length ws.length i d.size ≠ 0) : Calls Try.prog 38 #[.agg #[vS, vW], .int .i64 i, .string d] w (DiskE [] [] (putE ls.length ws.length i d.size) w) := by
  have HR := Lib.hid (fun W (h : Below w.heap.size w W) => hb ▸ Right_any (hS.below h) (hW.below h) hr)
  obtain ⟨aS, cap, rfl⟩ := hS.slice
  obtain ⟨aW, capW, rfl⟩ := hW.slice
  have HD := Lib.hid (D2.made w (.slice aS ls.length cap) (.slice aW ws.length capW))
  have HH := Lib.hid (fun W => has_any aS ls.length cap (.slice aW ws.length capW) i W)
  have HP : Hid (∀ {e : Int}, e = putE ls.length ws.length i d.size → putE ls.length ws.length i d.size = e) := fun h => h.symm
  generalize hpe : putE ls.length ws.length i d.size = pe at hne ⊢
  have HPE := Lib.hid hpe
  clear hS hW hpe HP
  have hl3 := (rightB_t.1 hb).2.2.1
  by_cases hh : hasB ls.length i = true
  · by_cases hs : d.size = 64
    · by_cases hm : ws.length = 64
      · have HE : Hid (pe = 7) := by unfold Hid; rw [← HPE.out, putE, if_neg (by rw [hh]; simp), if_neg (by omega), if_pos hm]
        have HM := Lib.hid hm
        clear hm
        go_enter Try.func38, Try.ntmps38
        go_wp2_with fail
        refine (HR.out _ HD.out.2.2).mono ?_
        rintro e x ⟨rfl, hx⟩
        have HX := Lib.hid (HD.out.below hx)
        obtain ⟨⟨b0, b1, b2, b3, b4⟩, ⟨d0, d1, d2, d3, d4⟩, _⟩ := HX.out
        clear hx HD
        go_wp2_with fail
        refine (HH.out _).mono ?_
        rintro e y ⟨rfl, hy⟩
        rw [hh]
        clear b0 b1 b2 b3 b4 d0 d1 d2 d3 d4
        have HY := Lib.hid (HX.out.below hy)
        obtain ⟨⟨b0, b1, b2, b3, b4⟩, ⟨d0, d1, d2, d3, d4⟩, _⟩ := HY.out
        have HZ := Lib.hid (HY.out.stored (.slice none 0 0) (.slice none 0 0))
        clear hy HX
        have hm := HM.out
        go_wp2_with fail
        obtain ⟨⟨z0, z1, z2, _⟩, zb⟩ := HZ.out
        unfold d2St at z1 z2
        exact bodyPost_ret (v := .tuple #[.agg #[.slice none 0 0, .slice none 0 0], .int .i64 7]) (by simp [results, Try.results38, go_sem, z1, z2]) rfl ⟨_, _, by rw [HE.out], ⟨.inl ⟨rfl, rfl⟩, from_nil _⟩, ⟨.inl ⟨rfl, rfl⟩, from_nil _⟩, zb⟩
      · exact absurd (by rw [← HPE.out, putE, if_neg (by rw [hh]; simp), if_neg (by omega), if_neg hm]) hne
    · have HE : Hid (pe = 1) := by unfold Hid; rw [← HPE.out, putE, if_neg (by rw [hh]; simp), if_pos hs]
      go_enter Try.func38, Try.ntmps38
      go_wp2_with fail
      refine (HR.out _ HD.out.2.2).mono ?_
      rintro e x ⟨rfl, hx⟩
      have HX := Lib.hid (HD.out.below hx)
      obtain ⟨⟨b0, b1, b2, b3, b4⟩, ⟨d0, d1, d2, d3, d4⟩, _⟩ := HX.out
      clear hx HD
      go_wp2_with fail
      refine (HH.out _).mono ?_
      rintro e y ⟨rfl, hy⟩
      rw [hh]
      clear b0 b1 b2 b3 b4 d0 d1 d2 d3 d4
      have HY := Lib.hid (HX.out.below hy)
      obtain ⟨⟨b0, b1, b2, b3, b4⟩, ⟨d0, d1, d2, d3, d4⟩, _⟩ := HY.out
      have HZ := Lib.hid (HY.out.stored (.slice none 0 0) (.slice none 0 0))
      clear hy HX
      go_wp2_with fail
      obtain ⟨⟨z0, z1, z2, _⟩, zb⟩ := HZ.out
      unfold d2St at z1 z2
      exact bodyPost_ret (v := .tuple #[.agg #[.slice none 0 0, .slice none 0 0], .int .i64 1]) (by simp [results, Try.results38, go_sem, z1, z2]) rfl ⟨_, _, by rw [HE.out], ⟨.inl ⟨rfl, rfl⟩, from_nil _⟩, ⟨.inl ⟨rfl, rfl⟩, from_nil _⟩, zb⟩
  · have hh' : hasB ls.length i = false := by simpa using hh
    have HE : Hid (pe = 8) := by unfold Hid; rw [← HPE.out, putE, if_pos hh']
    go_enter Try.func38, Try.ntmps38
    go_wp2_with fail
    refine (HR.out _ HD.out.2.2).mono ?_
    rintro e x ⟨rfl, hx⟩
    have HX := Lib.hid (HD.out.below hx)
    obtain ⟨⟨b0, b1, b2, b3, b4⟩, ⟨d0, d1, d2, d3, d4⟩, _⟩ := HX.out
    clear hx HD
    go_wp2_with fail
    refine (HH.out _).mono ?_
    rintro e y ⟨rfl, hy⟩
    rw [hh']
    clear b0 b1 b2 b3 b4 d0 d1 d2 d3 d4
    have HY := Lib.hid (HX.out.below hy)
    obtain ⟨⟨b0, b1, b2, b3, b4⟩, ⟨d0, d1, d2, d3, d4⟩, _⟩ := HY.out
    have HZ := Lib.hid (HY.out.stored (.slice none 0 0) (.slice none 0 0))
    clear hy HX
    go_wp2_with fail
    obtain ⟨⟨z0, z1, z2, _⟩, zb⟩ := HZ.out
    unfold d2St at z1 z2
    exact bodyPost_ret (v := .tuple #[.agg #[.slice none 0 0, .slice none 0 0], .int .i64 8]) (by simp [results, Try.results38, go_sem, z1, z2]) rfl ⟨_, _, by rw [HE.out], ⟨.inl ⟨rfl, rfl⟩, from_nil _⟩, ⟨.inl ⟨rfl, rfl⟩, from_nil _⟩, zb⟩

theorem al (W : World) (o : Obj) : Below W.heap.size W (W.alloc o) := (Below.refl _ _).alloc (Nat.le_refl _) _
theorem put_a {w y x1 : World} {vS vW v1 : Value} {ls : List ByteArray} {B : Nat} (hD : D2 w vS vW y) (ho : OwnS B v1 ls x1) (hB : y.heap.size ≤ B) (hb : Below y.heap.size y x1) : D2 w vS vW x1 ∧ (SRow x1 v1 ls ∧ From y.heap.size v1) := by
  refine ⟨hD.below hb, ho.row, ?_⟩
  intro g o n cap e
  subst e
  have := (World.ownsRow.lt ho) g rfl
  omega

theorem put_end {w y x1 Wc w1 : World} {vS vW u1 v2 : Value} {ls : List ByteArray} {ws : List (Int × ByteArray)} {B gg cap : Nat} {i : Int} {d : ByteArray} (hA : D2 w vS vW x1 ∧ (SRow x1 u1 ls ∧ From y.heap.size u1)) (hy : y.heap.size ≤ x1.heap.size)
    (h12 : Below x1.heap.size x1 Wc) (ho : Wc.ownsRow B 75 2 v2 ws.length (wcells ws)) (hB : x1.heap.size ≤ B) (hg : Wc.grownBy w1 v2.ownBlock)
    (hown : w1.ownsRow B 75 2 (.slice (some ⟨gg, 0, none⟩) (ws.length + 1) cap) (ws.length + 1) (wcells ws ++ [.int .i64 i, .string d])) :
    D2 w vS vW w1 ∧ (SRow w1 u1 ls ∧ From y.heap.size u1) ∧ (WRow w1 (.slice (some ⟨gg, 0, none⟩) (ws.length + 1) cap) (ws ++ [(i, d)]) ∧ From y.heap.size (.slice (some ⟨gg, 0, none⟩) (ws.length + 1) cap)) := by
  have hb : Below x1.heap.size x1 w1 := h12.grown hg h12.size (fun k e => Nat.le_trans hB ((ho.lt k e).1))
  have hO : OwnW B (.slice (some ⟨gg, 0, none⟩) (ws.length + 1) cap) (ws ++ [(i, d)]) w1 := by
    unfold OwnW
    rw [wcells_snoc, List.length_append]
    exact hown
  have hl := (hown.lt gg rfl).1
  exact ⟨hA.1.below hb, ⟨hA.2.1.below hb, hA.2.2⟩, hO.row, from_some (by omega)⟩
theorem d2_keeps {w W : World} {vS vW : Value} (h : D2 w vS vW W) (u0 u1 : Value) : Box2 w.heap.size vS vW (d2St w W u0 u1) := (h.1.other (by omega) _).other (by omega) _

theorem news2 {b : Nat} {c0 c1 : Value} {W : World} (h : Box2 b c0 c1 W) : ∀ j u, [c0, c1][j]? = some u → W.cell? ((⟨b, 0, none⟩ : Addr).add j) = some u := by
  intro j u hj
  rw [addr_at]
  match j, hj with
  | 0, hj => simp at hj; subst hj; exact h.2.1
  | 1, hj => simp at hj; subst hj; exact h.2.2.1

set_option maxHeartbeats 2000000 in
set_option maxRecDepth 100000 in
theorem Put_yes {vS vW : Value} {ls : List ByteArray} {ws : List (Int × ByteArray)} {w : World} (hS : SRow w vS ls) (hW : WRow w vW ws) (hb : rightB ls ws = true) (i : Int) (d : ByteArray) (hh : hasB ls.length i = true) (hd : d.size = 64) (hlt : ws.length < 64) : Calls Try.prog 38 #[.agg #[vS, vW], .int .i64 i, .string d] w (DiskE ls (ws ++ [(i, d)]) 0 w) := by
  have hP := rightB_t.1 hb
  have hr : smallP ls ws := ⟨by have := hP.2.1; omega, by have := hP.2.2.1; omega, fun j h => by rw [hP.2.2.2.1 j h]; omega, fun j h => by rw [(hP.2.2.2.2 j h).2.2]; omega⟩
  obtain ⟨i0, hi, hz0, hz1, hz2⟩ := info_parts Try.infoW
  have HR := Lib.hid (fun W (h : Below w.heap.size w W) => hb ▸ Right_any (hS.below h) (hW.below h) hr)
  have HC := Lib.hid (fun W (h : Below w.heap.size w W) => CloneS_any (hS.below h) hr.1)
  have HK := Lib.hid (fun W (h : Below w.heap.size w W) => CloneW_any (hW.below h) hr.2.1)
  obtain ⟨aS, cap, rfl⟩ := hS.slice
  obtain ⟨aW, capW, rfl⟩ := hW.slice
  have HD := Lib.hid (D2.made w (.slice aS ls.length cap) (.slice aW ws.length capW))
  have HH := Lib.hid (fun W => hh ▸ has_any aS ls.length cap (.slice aW ws.length capW) i W)
  clear hS hW
  go_enter Try.func38, Try.ntmps38
  go_wp2_with fail
  refine (HR.out _ HD.out.2.2).mono ?_
  rintro e x ⟨rfl, hx⟩
  have HX := Lib.hid (HD.out.below hx)
  obtain ⟨⟨b0, b1, b2, b3, b4⟩, ⟨d0, d1, d2, d3, d4⟩, _⟩ := HX.out
  clear hx HD
  go_wp2_with fail
  refine (HH.out _).mono ?_
  rintro e y ⟨rfl, hy⟩
  clear b0 b1 b2 b3 b4 d0 d1 d2 d3 d4
  have HY := Lib.hid (HX.out.below hy)
  obtain ⟨⟨b0, b1, b2, b3, b4⟩, ⟨d0, d1, d2, d3, d4⟩, hbe⟩ := HY.out
  clear hy HX
  go_upto_region 9 with (fail)
  have y0 : Below y.heap.size y y.drew := (Below.refl _ _).drew
  have y1 : Below y.heap.size y (y.alloc (.cells #[.int .i64 i, .string d] 75)).drew := ((Below.refl _ _).alloc (Nat.le_refl _) _).drew
  have HB0 := Lib.hid (below_trans hbe y0)
  have HB1 := Lib.hid (below_trans hbe y1)
  have n1 := (HY.out.below y1).1.2.1
  have n2 := (HY.out.below y1).1.2.2.1
  have HBx := Lib.hid (Box2.made y (.int .i64 i) (.string d) 75)
  have HY0 := Lib.hid y0
  have HY1 := Lib.hid y1
  clear y0 y1
  have HM1 : Hid (ws.length + 1 ≤ maxLen) := by unfold Hid maxLen; omega
  have HM2 : Hid ((ws.length + 1) * 24 ≤ 140737488355328) := by unfold Hid; omega
  go_region_held3 (fun w' => w'.cell? ⟨w.heap.size, 0, none⟩ = some (.slice aS ls.length cap) ∧ w'.cell? ⟨w.heap.size, 1, none⟩ = some (.slice aW ws.length capW))
    (first | exact ⟨b1, b2⟩ | exact ⟨n1, n2⟩ | exact ⟨a1, a2⟩ | exact ⟨a3, a4⟩ | exact ⟨c1, c2⟩ | exact ⟨c3, c4⟩ | exact ⟨e1, e2⟩ | exact ⟨e3, e4⟩ | fail)
    (first
      | (go_at_call 26; (with_reducible refine (HC.out _ HB0.out).mono ?_); rintro e x1 ⟨v1, rfl, ho1, hx1⟩; obtain ⟨as1, cap1, rfl⟩ := ho1.row.slice; have HA := Lib.hid (put_a HY.out ho1 (Nat.le_refl _) (below_trans HY0.out hx1)); have HYX := Lib.hid (below_trans HY0.out hx1).size; have HAB := Lib.hid HA.out.1.2.2; have HAC := Lib.hid (HA.out.1.below (al x1 (.cells #[.int .i64 i, .string d] 75))).2.2; have a1 := HA.out.1.1.2.1; have a2 := HA.out.1.1.2.2.1; have a3 := (HA.out.1.below (al x1 (.cells #[.int .i64 i, .string d] 75))).1.2.1; have a4 := (HA.out.1.below (al x1 (.cells #[.int .i64 i, .string d] 75))).1.2.2.1; clear ho1 hx1)
      | (go_at_call 26; (with_reducible refine (HC.out _ HB1.out).mono ?_); rintro e x1 ⟨v1, rfl, ho1, hx1⟩; obtain ⟨as1, cap1, rfl⟩ := ho1.row.slice; have HA := Lib.hid (put_a HY.out ho1 HY1.out.size (below_trans HY1.out hx1)); have HYX := Lib.hid (below_trans HY1.out hx1).size; have HAB := Lib.hid HA.out.1.2.2; have HAC := Lib.hid (HA.out.1.below (al x1 (.cells #[.int .i64 i, .string d] 75))).2.2; have a1 := HA.out.1.1.2.1; have a2 := HA.out.1.1.2.2.1; have a3 := (HA.out.1.below (al x1 (.cells #[.int .i64 i, .string d] 75))).1.2.1; have a4 := (HA.out.1.below (al x1 (.cells #[.int .i64 i, .string d] 75))).1.2.2.1; have HBx1 := Lib.hid (HBx.out.below (below_trans ((Below.refl _ _).drew) hx1)); clear ho1 hx1)
      | (go_at_call 57; (with_reducible refine (HK.out x1 HAB.out).mono ?_); rintro e x2 ⟨v2, rfl, ho2, hx2⟩; have HO2 := Lib.hid ho2; have HX2 := Lib.hid hx2; have HA2 := Lib.hid (HA.out.1.below hx2); have c1 := HA2.out.1.2.1; have c2 := HA2.out.1.2.2.1; have c3 := (HA2.out.below (al x2 (.cells #[.int .i64 i, .string d] 75))).1.2.1; have c4 := (HA2.out.below (al x2 (.cells #[.int .i64 i, .string d] 75))).1.2.2.1; clear ho2 hx2)
      | (go_at_call 57; (with_reducible refine (HK.out (x1.alloc (.cells #[.int .i64 i, .string d] 75)) HAC.out).mono ?_); rintro e x2 ⟨v2, rfl, ho2, hx2⟩; have HO2 := Lib.hid ho2; have HX2 := Lib.hid hx2; have HA2 := Lib.hid ((HA.out.1.below (al x1 (.cells #[.int .i64 i, .string d] 75))).below hx2); have c1 := HA2.out.1.2.1; have c2 := HA2.out.1.2.2.1; have HBx2 := Lib.hid ((Box2.made x1 (.int .i64 i) (.string d) 75).below hx2); clear ho2 hx2)
      | (refine step_append_lies _ (by rfl) _ _ _ (by rfl) x1.heap.size 75 i0 _ 2 24 Try.underlying23 hi hz0 hz1 hz2 rfl (by omega) v2 ws.length (wcells ws) (by rfl) (World.ownsRow.alloc HO2.out _) ⟨x2.heap.size, 0, none⟩ 1 1 [.int .i64 i, .string d] (by rfl) (by rfl) (news2 (Box2.made x2 (.int .i64 i) (.string d) 75)) (by simp [Value.oneCell']) (by omega) HM1.out HM2.out (Nat.le_trans HX2.out.size (by simp)) (x2.heap.size + 1) (by simp) ?_; intro gg capA w1 hown1 hgrow hat hltA; have HF := Lib.hid (put_end HA.out HYX.out (below_trans HX2.out (al x2 (.cells #[.int .i64 i, .string d] 75))) (World.ownsRow.alloc HO2.out _) (Nat.le_refl _) hgrow hown1); have e1 := HF.out.1.1.2.1; have e2 := HF.out.1.1.2.2.1; have e3 := (d2_keeps HF.out.1 (.slice as1 ls.length cap1) (.slice (some ⟨gg, 0, none⟩) (ws.length + 1) capA)).2.1; have e4 := (d2_keeps HF.out.1 (.slice as1 ls.length cap1) (.slice (some ⟨gg, 0, none⟩) (ws.length + 1) capA)).2.2.1; obtain ⟨q0, q1, q2, q3, q4⟩ := HF.out.1.2.1; clear hown1 hgrow hat)
      | (refine step_append_lies _ (by rfl) _ _ _ (by rfl) (x1.alloc (.cells #[.int .i64 i, .string d] 75)).heap.size 75 i0 _ 2 24 Try.underlying23 hi hz0 hz1 hz2 rfl (by omega) v2 ws.length (wcells ws) (by rfl) HO2.out ⟨x1.heap.size, 0, none⟩ 1 1 [.int .i64 i, .string d] (by rfl) (by rfl) (news2 HBx2.out) (by simp [Value.oneCell']) (by omega) HM1.out HM2.out HX2.out.size (x2.heap.size) (by simp) ?_; intro gg capA w1 hown1 hgrow hat hltA; have HF := Lib.hid (put_end HA.out HYX.out (below_trans (al x1 (.cells #[.int .i64 i, .string d] 75)) HX2.out) HO2.out (by simp) hgrow hown1); have e1 := HF.out.1.1.2.1; have e2 := HF.out.1.1.2.2.1; have e3 := (d2_keeps HF.out.1 (.slice as1 ls.length cap1) (.slice (some ⟨gg, 0, none⟩) (ws.length + 1) capA)).2.1; have e4 := (d2_keeps HF.out.1 (.slice as1 ls.length cap1) (.slice (some ⟨gg, 0, none⟩) (ws.length + 1) capA)).2.2.1; obtain ⟨q0, q1, q2, q3, q4⟩ := HF.out.1.2.1; clear hown1 hgrow hat)
      | (refine step_append_lies _ (by rfl) _ _ _ (by rfl) x1.heap.size 75 i0 _ 2 24 Try.underlying23 hi hz0 hz1 hz2 rfl (by omega) v2 ws.length (wcells ws) (by rfl) HO2.out ⟨y.heap.size, 0, none⟩ 1 1 [.int .i64 i, .string d] (by rfl) (by rfl) (news2 (HBx1.out.below HX2.out)) (by simp [Value.oneCell']) (by omega) HM1.out HM2.out HX2.out.size (x2.heap.size) (by simp) ?_; intro gg capA w1 hown1 hgrow hat hltA; have HF := Lib.hid (put_end HA.out HYX.out HX2.out HO2.out (Nat.le_refl _) hgrow hown1); have e1 := HF.out.1.1.2.1; have e2 := HF.out.1.1.2.2.1; have e3 := (d2_keeps HF.out.1 (.slice as1 ls.length cap1) (.slice (some ⟨gg, 0, none⟩) (ws.length + 1) capA)).2.1; have e4 := (d2_keeps HF.out.1 (.slice as1 ls.length cap1) (.slice (some ⟨gg, 0, none⟩) (ws.length + 1) capA)).2.2.1; obtain ⟨q0, q1, q2, q3, q4⟩ := HF.out.1.2.1; clear hown1 hgrow hat)
      | fail)
  all_goals
    have HE := Lib.hid (D2.ends HF.out.1 d0 HF.out.2.1 HF.out.2.2)
    go_wp2_with fail
    obtain ⟨z0, z1, z2, z3⟩ := HE.out
    unfold d2St at z0 z1 z2
    exact bodyPost_ret (v := .tuple #[.agg #[.slice as1 ls.length cap1, .slice (some ⟨gg, 0, none⟩) (ws.length + 1) capA], .int .i64 0]) (by simp [results, Try.results38, go_sem, z1, z2]) rfl ⟨_, _, rfl, z3⟩
end Go.Proofs.Ytndakbjmahkjdaa.Disk
