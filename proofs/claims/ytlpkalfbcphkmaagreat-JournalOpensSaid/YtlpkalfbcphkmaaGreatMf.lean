/-
  Joined: Count, Comm, Keep, ReadRow.
-/
import Derived.Test.YtlpkalfbcphkmaaGreatMe
import Derived.WalkKit
import Derived.Conc.LoneCalls
import Derived.Conc.LoneSelect
import Derived.Test.YtlpkalfbcphkmaaGreatMd
import Derived.Deep.Cut
import Derived.Conc.SmallLaws
import Derived.Conc.EventLaws

/-
  What a text is read as (a relation over bytes), and the contracts of readCount and readText of package pack, and of the reference's count, over it.
-/
namespace Go.Proofs.YtlpkalfbcphkmaaGreat
open Go.ChangeShapes Go.WideShapes Go.ChangeAt Go.RowKit Go.Lib

/-- The text s is read as the number n with t behind it, or refused with b. -/
def Rd (s : ByteArray) (n : Int) (t : ByteArray) (b : Int) : Prop :=
  (NoLast s ∧ n = 0 ∧ t = ⟨#[]⟩ ∧ b = shortE s) ∨ ∃ i, IsLast s i ∧ ReadAs s i n t b

theorem rd_some (s : ByteArray) : ∃ n t b, Rd s n t b := by
  rcases last_or s with ⟨i, hi⟩ | h
  · obtain ⟨n, t, b, hr⟩ := readAs_some s i hi.1
    exact ⟨n, t, b, .inr ⟨i, hi, hr⟩⟩
  · exact ⟨_, _, _, .inl ⟨h, rfl, rfl, rfl⟩⟩
theorem shortE_cases (s : ByteArray) : shortE s = 3 ∨ shortE s = 4 := by unfold shortE; split <;> simp
theorem rd_bad {s : ByteArray} {n : Int} {t : ByteArray} {b : Int} (h : Rd s n t b) (hb : b ≠ 0) : n = 0 ∧ t = ⟨#[]⟩ ∧ 1 ≤ b ∧ b ≤ 5 := by
  rcases h with ⟨_, h1, h2, h3⟩ | ⟨i, _, hr⟩
  · rcases shortE_cases s with h | h <;> exact ⟨h1, h2, by omega, by omega⟩
  · rcases hr with ⟨_, _, h1, h2, h3⟩ | ⟨_, _, h1, h2, h3⟩ | ⟨_, _, h1, h2, h3⟩
    · exact ⟨h1, h2, by omega, by omega⟩
    · exact ⟨h1, h2, by omega, by omega⟩
    · exact absurd h3 hb
theorem rd_good {s : ByteArray} {n : Int} {t : ByteArray} (h : Rd s n t 0) : ∃ i, IsLast s i ∧ (i = 0 ∨ (0 < i ∧ ∀ hi : i < s.size, s[i].toNat ≠ 0)) ∧ mayB (rdN s i) = true ∧ n = rdN s i ∧ t = s.extract (i + 1) s.size := by
  rcases h with ⟨_, _, _, h3⟩ | ⟨i, hi, hr⟩
  · rcases shortE_cases s with h | h <;> omega
  · rcases hr with ⟨_, _, _, _, h3⟩ | ⟨_, _, _, _, h3⟩ | ⟨h1, h2, h3, h4, _⟩
    · omega
    · omega
    · exact ⟨i, hi, h1, h2, h3, h4⟩
theorem rd_size {s : ByteArray} {n : Int} {t : ByteArray} {b : Int} (h : Rd s n t b) : t.size ≤ s.size ∧ -1152921504606846976 ≤ n ∧ n ≤ 1152921504606846976 := by
  by_cases hb : b = 0
  · subst hb
    obtain ⟨i, hi, _, hm, rfl, rfl⟩ := rd_good h
    have := mayB_t.1 hm
    exact ⟨by rw [ByteArray.size_extract]; omega, this.1, this.2⟩
  · obtain ⟨rfl, rfl, _, _⟩ := rd_bad h hb
    exact ⟨Nat.zero_le _, by omega, by omega⟩

theorem ReadNumber_rd {s : ByteArray} {n : Int} {t : ByteArray} {b : Int} (h : Rd s n t b) (hs : s.size ≤ maxLen) (w : World) : Calls Tryz.prog 114 #[.string s] w (ThreeS n t b w) := by
  rcases h with ⟨h, rfl, rfl, rfl⟩ | ⟨i, hi, hr⟩
  · exact ReadNumber_short s w h hs
  · exact ReadNumber_as w hi hr hs
theorem RefRead_rd {s : ByteArray} {n : Int} {t : ByteArray} {b : Int} (h : Rd s n t b) (hs : s.size ≤ maxLen) (w : World) : Calls Tryz.prog 71 #[.string s] w (StructT n t b w) := by
  rcases h with ⟨h, rfl, rfl, rfl⟩ | ⟨i, hi, hr⟩
  · exact RefRead_short s w h hs
  · exact RefRead_as w hi hr hs

/-- The text s is read as a count n, at most most, with t behind it, or refused with b. -/
def RdCount (most : Int) (s : ByteArray) (n : Int) (t : ByteArray) (b : Int) : Prop :=
  ∃ n0 t0 b0, Rd s n0 t0 b0 ∧ ((b0 ≠ 0 ∧ n = 0 ∧ t = ⟨#[]⟩ ∧ b = b0) ∨ (b0 = 0 ∧ most < n0 ∧ n = 0 ∧ t = ⟨#[]⟩ ∧ b = 3) ∨ (b0 = 0 ∧ n0 ≤ most ∧ n0 < 0 ∧ n = 0 ∧ t = ⟨#[]⟩ ∧ b = 5) ∨ (b0 = 0 ∧ n0 ≤ most ∧ 0 ≤ n0 ∧ n = n0 ∧ t = t0 ∧ b = 0))

theorem rdCount_some (most : Int) (s : ByteArray) : ∃ n t b, RdCount most s n t b := by
  obtain ⟨n, t, b, h⟩ := rd_some s
  by_cases hb : b = 0
  · by_cases h1 : most < n
    · exact ⟨_, _, _, n, t, b, h, .inr (.inl ⟨hb, h1, rfl, rfl, rfl⟩)⟩
    · by_cases h2 : n < 0
      · exact ⟨_, _, _, n, t, b, h, .inr (.inr (.inl ⟨hb, by omega, h2, rfl, rfl, rfl⟩))⟩
      · exact ⟨_, _, _, n, t, b, h, .inr (.inr (.inr ⟨hb, by omega, by omega, rfl, rfl, rfl⟩))⟩
  · exact ⟨_, _, _, n, t, b, h, .inl ⟨hb, rfl, rfl, rfl⟩⟩

/-- The cells of a block of three that lay there before a call are as they were. -/
theorem three_cells {W x1 : World} {c0 c1 c2 : Value} {T : TypeId} (hb : Below (W.alloc (.cells #[c0, c1, c2] T)).heap.size (W.alloc (.cells #[c0, c1, c2] T)) x1) :
    x1.cell? ⟨W.heap.size, 0, none⟩ = some c0 ∧ x1.cell? ⟨W.heap.size, 1, none⟩ = some c1 ∧ x1.cell? ⟨W.heap.size, 2, none⟩ = some c2 ∧
    x1.frozen? ⟨W.heap.size, 0, none⟩ = false ∧ x1.frozen? ⟨W.heap.size, 1, none⟩ = false ∧ x1.frozen? ⟨W.heap.size, 2, none⟩ = false ∧ W.heap.size < x1.heap.size := by
  have hs := hb.size
  have hs' : (W.alloc (.cells #[c0, c1, c2] T)).heap.size = W.heap.size + 1 := by simp
  refine ⟨?_, ?_, ?_, ?_, ?_, ?_, by omega⟩
  · rw [hb.cell (by show W.heap.size < _; omega)]; simp
  · rw [hb.cell (by show W.heap.size < _; omega)]; simp
  · rw [hb.cell (by show W.heap.size < _; omega)]; simp
  · rw [hb.frozen (by show W.heap.size < _; omega)]; simp
  · rw [hb.frozen (by show W.heap.size < _; omega)]; simp
  · rw [hb.frozen (by show W.heap.size < _; omega)]; simp

theorem count_below {w x1 : World} {o : Obj} (h : Below (w.alloc o).heap.size (w.alloc o) x1) (u0 u1 u2 : Value) (o' : Obj) :
    Below w.heap.size w ((((x1.setCell ⟨w.heap.size, 0, none⟩ u0).setCell ⟨w.heap.size, 1, none⟩ u1).setCell ⟨w.heap.size, 2, none⟩ u2).alloc o') := by
  have hs := h.size
  have hs' : (w.alloc o).heap.size = w.heap.size + 1 := by simp
  exact ((((((Below.refl _ _).alloc (Nat.le_refl _) o).trans (h.mono (by omega))).setCell (Nat.le_refl _) u0).setCell (Nat.le_refl _) u1).setCell (Nat.le_refl _) u2).alloc (by simp; omega) o'

end Go.Proofs.YtlpkalfbcphkmaaGreat

/-
  Rules for a region whose first operation is a communication on a channel of the goroutine's own: a receive from a buffer, a receive from a closed channel, a select of one send with a default. Over any program.
-/
namespace Go.Proofs.YtlpkalfbcphkmaaGreat
open Go.RowKit Go.Conc

section
variable {P : Program} {b : Frame} {a : Act} {k : List Item} {cs : List Frame} {w : World}

theorem comm_any {ops : Array Oper} {i : Nat} {rest : List Nat} {o : Oper} {cases : Array CommCase} {blocking : Bool} {shape : CommShape} {w' : World} (ho : ops[i]? = some o) (hw : Region.wanted o (yielded ops a.tmps) = true)
    (hr : (execOp a.eval o).run P w = .ok (.comm cases blocking shape) w') :
    ∃ es, stepG P true (G (b.at a (.inRegion ops (i :: rest) :: k)) cs) w = .comm (G (b.at a (.inRegion ops (i :: rest) :: k)) cs) cases blocking shape w' es := by
  by_cases hk : b.kind = .early
  · refine ⟨seen P b.fn #[], ?_⟩
    rw [stepG_oper ho hw]
    simp [stepG.apply, hr, G, Frame.at, hk, GStep.after]
  · exact ⟨_, stepG_comm ho hw hk hr⟩
end

/-- A region whose first operation is a step of the machine that yields v. -/
theorem wp_region_first {P : Program} {id : Nat} {o : Oper} {l : List Oper} {Q : Exit → Act → World → Prop} {a : Act} {w w' : World} {v : Value} (ops : Array Oper) (hops : ops = (o :: l).toArray)
    (hstep : ∀ (b : Frame) (k : List Item) (cs : List Frame) (rest : List Nat), step P (lone (b.at a (.inRegion ops (0 :: rest) :: k)) cs w) = .next (lone ((b.at a (.inRegion ops (0 :: rest) :: k)).finish v) cs w'))
    (h : wpList P (o :: l).toArray Q l (a.put o.dst v) w') : (Code.region id ops false).wp P Q a w := by
  subst hops
  intro b k cs
  have e : wpOps P (o :: l).toArray Q (List.range' 1 l.length) = wpList P (o :: l).toArray Q l := wpOps_eq_wpList l 1 (fun j => by simp [Nat.add_comm 1 j])
  rw [← e] at h
  obtain ⟨x, a', w'', hq, harr⟩ := wp_ops _ _ _ h b k cs
  refine ⟨x, a', w'', hq, .of_steps (.head step_region (.one ?_)) harr⟩
  have hr : List.range (o :: l).toArray.size = 0 :: List.range' 1 l.length := by
    rw [List.range_eq_range']; simp [List.range'_succ]
  rw [hr, hstep b k cs, Frame.finish_at]
  rfl

section
variable {P : Program} {id : Nat} {o : Oper} {l : List Oper} {Q : Exit → Act → World → Prop} {a : Act} {w : World} {c cap s r : Nat} {buf : Array Value} {z v : Value} {tm closed : Bool}

theorem wp_recv_buf (hg : o.guard = none) (hr : (execOp a.eval o).run P w = .ok (.comm #[rcase c z] true (.recv true)) w) (hc : w.heap[c]? = some (.chan cap buf closed s r tm)) (hsome : 0 < buf.size)
    (h : wpList P (o :: l).toArray Q l (a.put o.dst (.tuple #[buf.getD 0 undef, .bool true])) (w.setChan c cap (buf.extract 1 buf.size) closed s (r + 1) tm)) : (Code.region id (o :: l).toArray false).wp P Q a w := by
  refine wp_region_first _ rfl (fun b k cs rest => ?_) h
  obtain ⟨es, hs⟩ := comm_any (P := P) (b := b) (k := k) (cs := cs) (rest := rest) (ops := (o :: l).toArray) (i := 0) (by simp) (by simp [Region.wanted, hg]) hr
  exact step_lone_recv_buf true hs hc hsome
theorem wp_recv_shut (hg : o.guard = none) (hr : (execOp a.eval o).run P w = .ok (.comm #[rcase c z] true (.recv true)) w) (hc : w.heap[c]? = some (.chan cap #[] true s r tm))
    (h : wpList P (o :: l).toArray Q l (a.put o.dst (.tuple #[z, .bool false])) w) : (Code.region id (o :: l).toArray false).wp P Q a w := by
  refine wp_region_first _ rfl (fun b k cs rest => ?_) h
  obtain ⟨es, hs⟩ := comm_any (P := P) (b := b) (k := k) (cs := cs) (rest := rest) (ops := (o :: l).toArray) (i := 0) (by simp) (by simp [Region.wanted, hg]) hr
  exact step_lone_recv_shut true hs hc
theorem wp_send_room (hg : o.guard = none) (hr : (execOp a.eval o).run P w = .ok (.comm #[scase c v z] false .select) w) (hc : w.heap[c]? = some (.chan cap buf false s r tm)) (hroom : buf.size < cap)
    (h : wpList P (o :: l).toArray Q l (a.put o.dst (.tuple #[goInt 0, .bool false])) (w.setChan c cap (buf.push v) false (s + 1) r tm)) : (Code.region id (o :: l).toArray false).wp P Q a w := by
  refine wp_region_first _ rfl (fun b k cs rest => ?_) h
  obtain ⟨es, hs⟩ := comm_any (P := P) (b := b) (k := k) (cs := cs) (rest := rest) (ops := (o :: l).toArray) (i := 0) (by simp) (by simp [Region.wanted, hg]) hr
  exact step_lone_select_send_room hs hc hroom
theorem wp_send_full (hg : o.guard = none) (hr : (execOp a.eval o).run P w = .ok (.comm #[scase c v z] false .select) w) (hc : w.heap[c]? = some (.chan cap buf false s r tm)) (hfull : cap ≤ buf.size)
    (h : wpList P (o :: l).toArray Q l (a.put o.dst (.tuple #[goInt (-1), .bool false])) w) : (Code.region id (o :: l).toArray false).wp P Q a w := by
  refine wp_region_first _ rfl (fun b k cs rest => ?_) h
  obtain ⟨es, hs⟩ := comm_any (P := P) (b := b) (k := k) (cs := cs) (rest := rest) (ops := (o :: l).toArray) (i := 0) (by simp) (by simp [Region.wanted, hg]) hr
  exact step_lone_select_send_full hs hc hfull
end
end Go.Proofs.YtlpkalfbcphkmaaGreat

/-
  Contracts of keep and all of package pack: a channel of the call's own, kept to its room, and emptied.
-/
namespace Go.Proofs.YtlpkalfbcphkmaaGreat
open Go.ChangeShapes Go.WideShapes Go.ChangeAt Go.RowKit Go.Lib Go.Conc

theorem Tryz.info9 : (Tryz.prog.info? 9).map (fun i => (i.zero, i.size, i.bytes)) = some (some (.string ⟨#[]⟩), 1, 16) := by kernel_rfl

def scells (l : List ByteArray) : List Value := l.map Value.string
theorem scells_len (l : List ByteArray) : (scells l).length = l.length := by simp [scells]
def chanLen (c : Nat) (w : World) : Nat := match w.heap[c]? with
  | some (.chan _ buf _ _ _ _) => buf.size
  | _ => 0

/-- The row of texts ts is returned, in blocks from B on; below c all is as it was. -/
def Texts (B c : Nat) (ts : List ByteArray) (w : World) (e : Ending) (w' : World) : Prop :=
  ∃ v, e = .returned v ∧ w'.ownsRow B 9 1 v ts.length (scells ts) ∧ Below c w w'

theorem scells_tail (t : ByteArray) (m : List ByteArray) : (scells (t :: m)).toArray.extract 1 (scells (t :: m)).toArray.size = (scells m).toArray := by
  simp [scells]
  exact List.take_of_length_le (by simp)
theorem scells_snoc (l : List ByteArray) (t : ByteArray) : scells (l ++ [t]) = scells l ++ [Value.string t] := by simp [scells]

theorem str_snoc {B c : Nat} {e : TypeId} {v v' : Value} {l : List ByteArray} (t : ByteArray) {w wr w1 : World} {o oc : Obj} (hcB : c < B) (hB : B ≤ wr.heap.size)
    (hown : wr.ownsRow B e 1 v l.length (scells l)) (hc : wr.heap[c]? = some oc) (hnx : Below c w wr)
    (hown' : w1.ownsRow B e 1 v' (l.length + 1) (scells l ++ [.string t])) (hgrow : (wr.alloc o).grownBy w1 v.ownBlock) :
    w1.ownsRow B e 1 v' (l ++ [t]).length (scells (l ++ [t])) ∧ w1.heap[c]? = some oc ∧ Below c w w1 ∧ B ≤ w1.heap.size := by
  have hs := hgrow.size
  have hs' : (wr.alloc o).heap.size = wr.heap.size + 1 := by simp
  refine ⟨by rw [scells_snoc]; simpa using hown', ?_, (hnx.alloc (by omega) o).grown hgrow (by omega) (fun j hj => by have := (hown.lt j hj).1; omega), by omega⟩
  rw [hgrow.block c (by omega) (fun h => by have := (hown.lt c h.symm).1; omega), Below.heap_alloc _ _ _ (by omega)]
  exact hc

/-- A store into the channel's block leaves the row alone. -/
theorem own_setChan {B c : Nat} {e : TypeId} {v : Value} {n : Nat} {xs : List Value} {w : World} (hcB : c < B) (h : w.ownsRow B e 1 v n xs) (cap : Nat) (buf : Array Value) (cl : Bool) (s r : Nat) (tm : Bool) :
    (w.setChan c cap buf cl s r tm).ownsRow B e 1 v n xs := by
  obtain ⟨h1, h2 | ⟨g, cp, cur, hv, hg, hb, h3⟩⟩ := h
  · exact ⟨h1, .inl h2⟩
  · refine ⟨h1, .inr ⟨g, cp, cur, hv, hg, ?_, h3⟩⟩
    simp only [World.setChan]
    rw [Array.getElem?_setIfInBounds_ne (by omega)]
    exact hb

/-- What holds at the head of a loop that empties a closed channel into a row of texts. -/
def Draining (B c cap s : Nat) (tm : Bool) (ts : List ByteArray) (w : World) (v : Value) (wr : World) : Prop :=
  ∃ (l m : List ByteArray) (r : Nat), l ++ m = ts ∧ wr.heap[c]? = some (.chan cap (scells m).toArray true s r tm) ∧ wr.ownsRow B 9 1 v l.length (scells l) ∧ Below c w wr ∧ B ≤ wr.heap.size

theorem chanLen_of {c cap s r : Nat} {buf : Array Value} {cl tm : Bool} {w : World} (h : w.heap[c]? = some (.chan cap buf cl s r tm)) : chanLen c w = buf.size := by unfold chanLen; rw [h]

end Go.Proofs.YtlpkalfbcphkmaaGreat

/-
  What a text is read as, as a row of texts (a relation over bytes), and the contracts of readText and ReadRow of package pack and of the reference's ReadRow, over it.
-/
namespace Go.Proofs.YtlpkalfbcphkmaaGreat
open Go.ChangeShapes Go.WideShapes Go.ChangeAt Go.RowKit Go.Lib Go.Conc

/-- The text s is read as the text x with t behind it, or refused with b. -/
def RdText (s x t : ByteArray) (b : Int) : Prop :=
  ∃ n0 t0 b0, RdCount 4096 s n0 t0 b0 ∧ ((b0 ≠ 0 ∧ x = ⟨#[]⟩ ∧ t = ⟨#[]⟩ ∧ b = b0) ∨ (b0 = 0 ∧ (t0.size : Int) < n0 ∧ x = ⟨#[]⟩ ∧ t = ⟨#[]⟩ ∧ b = 4) ∨
    (b0 = 0 ∧ n0 ≤ (t0.size : Int) ∧ x = t0.extract 0 n0.toNat ∧ t = t0.extract n0.toNat t0.size ∧ b = 0))

theorem rdCount_good {most : Int} {s : ByteArray} {n : Int} {t : ByteArray} (h : RdCount most s n t 0) : Rd s n t 0 ∧ 0 ≤ n ∧ n ≤ most := by
  obtain ⟨n0, t0, b0, hr, ⟨h1, rfl, rfl, h2⟩ | ⟨rfl, h1, rfl, rfl, h2⟩ | ⟨rfl, h1, h2, rfl, rfl, h3⟩ | ⟨rfl, h1, h2, rfl, rfl, _⟩⟩ := h
  · exact absurd h2.symm h1
  · omega
  · omega
  · exact ⟨hr, h2, h1⟩
theorem rdCount_bad {most : Int} {s : ByteArray} {n : Int} {t : ByteArray} {b : Int} (h : RdCount most s n t b) (hb : b ≠ 0) : n = 0 ∧ t = ⟨#[]⟩ ∧ 1 ≤ b ∧ b ≤ 5 := by
  obtain ⟨n0, t0, b0, hr, ⟨h1, rfl, rfl, rfl⟩ | ⟨rfl, h1, rfl, rfl, rfl⟩ | ⟨rfl, h1, h2, rfl, rfl, rfl⟩ | ⟨rfl, h1, h2, rfl, rfl, rfl⟩⟩ := h
  · have := rd_bad hr h1; exact ⟨rfl, rfl, this.2.2.1, this.2.2.2⟩
  · exact ⟨rfl, rfl, by omega, by omega⟩
  · exact ⟨rfl, rfl, by omega, by omega⟩
  · exact absurd rfl hb
theorem rdCount_size {most : Int} {s : ByteArray} {n : Int} {t : ByteArray} {b : Int} (h : RdCount most s n t b) : t.size ≤ s.size := by
  by_cases hb : b = 0
  · subst hb; exact (rd_size (rdCount_good h).1).1
  · rw [(rdCount_bad h hb).2.1]; exact Nat.zero_le _

theorem rdText_some (s : ByteArray) : ∃ x t b, RdText s x t b := by
  obtain ⟨n, t, b, h⟩ := rdCount_some 4096 s
  by_cases hb : b = 0
  · by_cases h1 : (t.size : Int) < n
    · exact ⟨_, _, _, n, t, b, h, .inr (.inl ⟨hb, h1, rfl, rfl, rfl⟩)⟩
    · exact ⟨_, _, _, n, t, b, h, .inr (.inr ⟨hb, by omega, rfl, rfl, rfl⟩)⟩
  · exact ⟨_, _, _, n, t, b, h, .inl ⟨hb, rfl, rfl, rfl⟩⟩
theorem rdText_good {s x t : ByteArray} (h : RdText s x t 0) : ∃ (n : Nat) (t0 : ByteArray), RdCount 4096 s n t0 0 ∧ n ≤ t0.size ∧ n ≤ 4096 ∧ x = t0.extract 0 n ∧ t = t0.extract n t0.size := by
  obtain ⟨n0, t0, b0, hr, ⟨h1, _, _, h2⟩ | ⟨_, h1, _, _, h2⟩ | ⟨rfl, h1, rfl, rfl, _⟩⟩ := h
  · exact absurd h2.symm h1
  · omega
  · obtain ⟨_, h2, h3⟩ := rdCount_good hr
    refine ⟨n0.toNat, t0, ?_, by omega, by omega, rfl, rfl⟩
    rw [Int.toNat_of_nonneg h2]; exact hr
theorem rdText_bad {s x t : ByteArray} {b : Int} (h : RdText s x t b) (hb : b ≠ 0) : 1 ≤ b ∧ b ≤ 5 := by
  obtain ⟨n0, t0, b0, hr, ⟨h1, _, _, rfl⟩ | ⟨_, h1, _, _, rfl⟩ | ⟨_, h1, _, _, rfl⟩⟩ := h
  · have := rdCount_bad hr h1; exact this.2.2
  · omega
  · exact absurd rfl hb
theorem rdText_size {s x t : ByteArray} {b : Int} (h : RdText s x t b) : x.size ≤ 4096 ∧ t.size ≤ s.size := by
  obtain ⟨n0, t0, b0, hr, ⟨h1, rfl, rfl, _⟩ | ⟨_, h1, rfl, rfl, _⟩ | ⟨rfl, h1, rfl, rfl, _⟩⟩ := h
  · exact ⟨Nat.zero_le _, Nat.zero_le _⟩
  · exact ⟨Nat.zero_le _, Nat.zero_le _⟩
  · obtain ⟨_, h2, h3⟩ := rdCount_good hr
    have := rdCount_size hr
    rw [ByteArray.size_extract, ByteArray.size_extract]
    omega

/-- Two texts and an error are returned. -/
def SSI (x t : ByteArray) (b : Int) (w : World) (e : Ending) (w' : World) : Prop := e = .returned (.tuple #[.string x, .string t, .int .i64 b]) ∧ Below w.heap.size w w'

/-- From the text s, k texts are read: us, with fin behind them; or the reading ends with e behind us. -/
inductive Reads : Nat → ByteArray → List ByteArray → ByteArray → Int → Prop
  | done (s : ByteArray) : Reads 0 s [] s 0
  | bad (k : Nat) (s x t : ByteArray) (b : Int) (h : RdText s x t b) (hb : b ≠ 0) : Reads (k + 1) s [] t b
  | more (k : Nat) (s x t : ByteArray) (us : List ByteArray) (fin : ByteArray) (e : Int) (h : RdText s x t 0) (hr : Reads k t us fin e) : Reads (k + 1) s (x :: us) fin e

theorem reads_some (k : Nat) : ∀ s, ∃ us fin e, Reads k s us fin e := by
  induction k with
  | zero => exact fun s => ⟨_, _, _, .done s⟩
  | succ k ih =>
    intro s
    obtain ⟨x, t, b, h⟩ := rdText_some s
    by_cases hb : b = 0
    · subst hb
      obtain ⟨us, fin, e, hr⟩ := ih t
      exact ⟨_, _, _, .more k s x t us fin e h hr⟩
    · exact ⟨_, _, _, .bad k s x t b h hb⟩

/-- The text s is read as the row ts, or refused with b. -/
def RdRow (s : ByteArray) (ts : List ByteArray) (b : Int) : Prop :=
  ∃ n t b1, RdCount 256 s n t b1 ∧ ((b1 ≠ 0 ∧ ts = [] ∧ b = b1) ∨ (b1 = 0 ∧ ∃ us fin e, Reads n.toNat t us fin e ∧
    ((e ≠ 0 ∧ ts = [] ∧ b = e) ∨ (e = 0 ∧ 0 < fin.size ∧ ts = [] ∧ b = 5) ∨ (e = 0 ∧ fin.size = 0 ∧ ts = us ∧ b = 0))))

theorem rdRow_some (s : ByteArray) : ∃ ts b, RdRow s ts b := by
  obtain ⟨n, t, b, h⟩ := rdCount_some 256 s
  by_cases hb : b = 0
  · obtain ⟨us, fin, e, hr⟩ := reads_some n.toNat t
    by_cases he : e = 0
    · by_cases hf : 0 < fin.size
      · exact ⟨_, _, n, t, b, h, .inr ⟨hb, us, fin, e, hr, .inr (.inl ⟨he, hf, rfl, rfl⟩)⟩⟩
      · exact ⟨_, _, n, t, b, h, .inr ⟨hb, us, fin, e, hr, .inr (.inr ⟨he, by omega, rfl, rfl⟩)⟩⟩
    · exact ⟨_, _, n, t, b, h, .inr ⟨hb, us, fin, e, hr, .inl ⟨he, rfl, rfl⟩⟩⟩
  · exact ⟨_, _, n, t, b, h, .inl ⟨hb, rfl, rfl⟩⟩

/-- A row of texts and an error are returned. -/
def RowI (ts : List ByteArray) (b : Int) (w : World) (e : Ending) (w' : World) : Prop :=
  ∃ v, e = .returned (.tuple #[v, .int .i64 b]) ∧ w'.ownsRow w.heap.size 9 1 v ts.length (scells ts) ∧ Below w.heap.size w w'

theorem reads_len {k : Nat} {s : ByteArray} {us : List ByteArray} {fin : ByteArray} {e : Int} (h : Reads k s us fin e) : us.length ≤ k := by
  induction h with
  | done => simp
  | bad => simp
  | more _ _ _ _ _ _ _ _ _ ih => simp only [List.length_cons]; omega

theorem rdRow_len {s : ByteArray} {ts : List ByteArray} {b : Int} (h : RdRow s ts b) : ts.length ≤ 256 := by
  obtain ⟨n, t, b1, hc, ⟨h1, rfl, rfl⟩ | ⟨rfl, us, fin, e, hr, hb⟩⟩ := h
  · simp
  · obtain ⟨_, h2, h3⟩ := rdCount_good hc
    have := reads_len hr
    rcases hb with ⟨_, rfl, _⟩ | ⟨_, _, rfl, _⟩ | ⟨_, _, rfl, _⟩
    · simp
    · simp
    · omega

theorem own_base {B B' : Nat} {e : TypeId} {z : Nat} {v : Value} {n : Nat} {xs : List Value} {w : World} (h : w.ownsRow B e z v n xs) (hB : B' ≤ B) : w.ownsRow B' e z v n xs := by
  obtain ⟨h1, h2 | ⟨g, cp, cur, hv, hg, h3⟩⟩ := h
  · exact ⟨h1, .inl h2⟩
  · exact ⟨h1, .inr ⟨g, cp, cur, hv, by omega, h3⟩⟩
theorem scells_push (l : List ByteArray) (x : ByteArray) : (scells l).toArray.push (.string x) = (scells (l ++ [x])).toArray := by simp [scells]

/-- What holds at the head of the loop that reads texts into a channel. -/
def Filling (c m : Nat) (us : List ByteArray) (fin : ByteArray) (e : Int) (z : Nat) (w : World) (rest i : Value) (wr : World) : Prop :=
  ∃ (k : Nat) (l : List ByteArray) (t' : ByteArray) (us' : List ByteArray) (sd : Nat), k ≤ m ∧ i = .int .i64 k ∧ rest = .string t' ∧ t'.size ≤ z ∧ l.length = k ∧ l ++ us' = us ∧ Reads (m - k) t' us' fin e ∧
    wr.heap[c]? = some (.chan 256 (scells l).toArray false sd 0 false) ∧ Below w.heap.size w wr

theorem full_of {s : ByteArray} (h : 0 < s.size) : s.toList.isEmpty = false := by
  rw [ByteArray.toList_eq]
  cases hc : s.data.toList with
  | nil => have : s.data.size = 0 := by rw [← Array.length_toList, hc]; rfl
           rw [ByteArray.size_data] at this; omega
  | cons => rfl
theorem empty_of {s : ByteArray} (h : s.size = 0) : s.toList.isEmpty = true := by
  rw [ByteArray.toList_eq]
  cases hc : s.data.toList with
  | nil => rfl
  | cons => have : s.data.size ≠ 0 := by rw [← Array.length_toList, hc]; simp
            rw [ByteArray.size_data] at this; omega
theorem lt_of_heap {w : World} {c : Nat} {o : Obj} (h : w.heap[c]? = some o) : c < w.heap.size := by
  apply Classical.byContradiction
  intro hn
  rw [Array.getElem?_eq_none (by omega)] at h
  cases h

end Go.Proofs.YtlpkalfbcphkmaaGreat
