/-
  Joined: Num, Sums, Val.
-/
import Derived.Test.YtndakbjmahkjdaaMe
import Derived.OwnWalk
import Derived.WalkSpells
import Derived.Lib.Mul64
import Derived.Laws.Bits64b
import Derived.Shelf.Bits.Mul64

/-
  Contracts of appendNumber, Number (package pack) and of the reference's Number: the bytes that are written are the digits of the folded number.
-/
namespace Go.Proofs.Ytndakbjmahkjdaa
open Go.ChangeShapes Go.WideShapes Go.ChangeAt Go.RowKit Go.Lib

theorem Try.info5 : (Try.prog.info? 5).map (fun i => (i.zero, i.size, i.bytes)) = some (some (.int .u8 0), 1, 1) := by kernel_rfl

/-- The row of bytes l is returned, in blocks from B on; below B all is as it was. -/
def Bytes (B : Nat) (l : List UInt8) (w : World) (e : Ending) (w' : World) : Prop :=
  ∃ v, e = .returned v ∧ w'.ownsRow B 5 1 v l.length (bcells l) ∧ Below B w w'

theorem lowDig (k : Nat) : ((UInt8.ofNat k).toNat : Int) = ((k % 256 : Nat) : Int) := by simp

set_option maxHeartbeats 1600000 in
set_option maxRecDepth 1000000 in
theorem appendNumber_any (B : Nat) (v : Value) (l : List UInt8) (n : Int) (w : World) (h1 : -1152921504606846976 ≤ n) (h2 : n ≤ 1152921504606846976)
    (hown0 : w.ownsRow B 5 1 v l.length (bcells l)) (hB : B ≤ w.heap.size) (hl : l.length ≤ 100000000) :
    Calls Try.prog 80 #[v, .int .i64 n] w (Bytes B (l ++ digs (fold n)) w) := by
  obtain ⟨i0, hi, hz0, hz1, hz2⟩ := info_parts Try.info5
  have hf := fold_le h1 h2
  have h9 := digs_len9 _ hf
  have HO := Lib.hid hown0
  clear hown0
  generalize hg : fold n = u at hf h9
  have HG := Lib.hid hg
  clear hg
  go_enter Try.func80, Try.ntmps80
  go_wp2_with (go_at_call 85; refine (fold_any _ _ h1 h2).mono ?_; rintro e w' ⟨rfl, rfl⟩; rw [HG.out])
  go_loopw [0, 5] (fun v' x wr => ∃ (k : Nat) (p : List UInt8), k ≤ 2305843009213693952 ∧ x = .int .u64 k ∧ p ++ digs k = l ++ digs u ∧ wr.ownsRow B 5 1 v' p.length (bcells p) ∧ Below B w wr)
    (fun _ x _ => (Go.RowKit.intOf x).toNat)
  case atStart => exact ⟨u, l, hf, rfl, rfl, HO.out, Below.refl _ _⟩
  case round =>
    obtain ⟨k, p, hk, rfl, hp, hown, hnx⟩ := hrel
    have hpl : p.length ≤ l.length + 9 := by
      have := congrArg List.length hp
      simp only [List.length_append] at this
      have := digs_len_pos k
      omega
    have HP := Lib.hid hp
    clear hp
    have hsz := hnx.size
    by_cases hlt : k < 128
    · have hd := digs_lt hlt
      have HD := Lib.hid hd
      clear hd
      go_wp2_with (at_builtin; refine wpList_append_own _ rfl _ _ 46 rfl B 5 i0 (.int .u8 0) 1 1 Try.underlying46 hi hz0 hz1 hz2 rfl (by decide) _ _ _ rfl (hown.alloc _) ⟨wr.heap.size, 0, none⟩ 1 1 [.int .u8 (k : Int)] rfl rfl ?c1 ?c2 ?c3 ?c4 ?c5 ?_)
      case c1 =>
        intro j y hj
        match j, hj with
        | 0, hj => simp at hj; subst hj; simp [Addr.add]
      case c2 => intro y hy; simp at hy; subst hy; rfl
      case c3 => unfold maxLen; omega
      case c4 => omega
      case c5 => simp; omega
      intro v' w1 hown' hgrow _
      have R := own_snoc (UInt8.ofNat k) (by simp; omega) (by omega) hown hnx hown' hgrow
      clear hown' hgrow hown
      go_wp2
      go_ret
      rw [← HP.out, HD.out]
      exact ⟨v', rfl, R.1, R.2⟩
    · have hd := digs_ge hlt
      have HD := Lib.hid hd
      clear hd
      go_wp2_with (at_builtin; refine wpList_append_own _ rfl _ _ 46 rfl B 5 i0 (.int .u8 0) 1 1 Try.underlying46 hi hz0 hz1 hz2 rfl (by decide) _ _ _ rfl (hown.alloc _) ⟨wr.heap.size, 0, none⟩ 1 1 [.int .u8 ((k : Int) % 128 + 128)] rfl rfl ?d1 ?d2 ?d3 ?d4 ?d5 ?_)
      case d1 =>
        intro j y hj
        match j, hj with
        | 0, hj => simp at hj; subst hj; simp [Addr.add]
      case d2 => intro y hy; simp at hy; subst hy; rfl
      case d3 => unfold maxLen; omega
      case d4 => omega
      case d5 => simp; omega
      intro v' w1 hown' hgrow _
      have R := own_snoc (UInt8.ofNat (k % 128 + 128)) (by simp; omega) (by omega) hown hnx hown' hgrow
      clear hown' hgrow hown
      go_wp2
      go_roundw
      case rel => exact ⟨k / 128, p ++ [UInt8.ofNat (k % 128 + 128)], by omega, by go_num, by rw [List.append_assoc, ← HP.out, HD.out]; rfl, R.1, R.2⟩
      case measure => simp [Go.RowKit.intOf]; omega

/-- A text and an error are returned; below B all is as it was. -/
def TextI (s : ByteArray) (b : Int) (w : World) (e : Ending) (w' : World) : Prop := e = .returned (.tuple #[.string s, .int .i64 b]) ∧ Below w.heap.size w w'
def Text (s : ByteArray) (w : World) (e : Ending) (w' : World) : Prop := e = .returned (.string s) ∧ Below w.heap.size w w'

theorem digs_ne (u : Nat) : digs u ≠ [] := by
  have := digs_len_pos u
  intro h; rw [h] at this; simp at this

set_option maxHeartbeats 400000 in
theorem Number_yes (n : Int) (w : World) (h : mayB n = true) : Calls Try.prog 67 #[.int .i64 n] w (TextI ⟨(digs (fold n)).toArray⟩ 0 w) := by
  have HN := Lib.hid h
  obtain ⟨h1, h2⟩ := mayB_t.1 h
  clear h
  go_enter Try.func67, Try.ntmps67
  go_wp2_with (first
    | (go_at_call 79; refine (mayBe_any _ _).mono ?_; rintro e w' ⟨rfl, rfl⟩; rw [HN.out])
    | (go_at_call 80; refine (appendNumber_any w.heap.size _ [] _ _ h1 h2 (World.ownsRow_nil _ _ _ _) (Nat.le_refl _) (by simp)).mono ?_))
  rintro e w' ⟨v, rfl, hown, hb⟩
  have hs := own_string (dst := 9) Try.underlying46 Try.underlying5 Try.underlying9 hown (digs_ne _)
  go_wp2
  go_ret2
  exact ⟨rfl, hb⟩
theorem Number_no (n : Int) (w : World) (h : mayB n = false) : Calls Try.prog 67 #[.int .i64 n] w (TextI ⟨#[]⟩ 1 w) := by
  have HN := Lib.hid h
  clear h
  go_enter Try.func67, Try.ntmps67
  go_wp2_with (go_at_call 79; refine (mayBe_any _ _).mono ?_; rintro e w' ⟨rfl, rfl⟩; rw [HN.out])
  go_ret2
  exact ⟨rfl, Below.refl _ _⟩

theorem Number_64 (w : World) : Calls Try.prog 67 #[.int .i64 64] w (TextI ⟨#[128, 1]⟩ 0 w) := by
  have h := Number_yes 64 w (by decide)
  rwa [show fold 64 = 128 from rfl, digs_ge (by omega), digs_lt (by decide)] at h
theorem Number_m1 (w : World) : Calls Try.prog 67 #[.int .i64 (-1)] w (TextI ⟨#[1]⟩ 0 w) := by
  have h := Number_yes (-1) w (by decide)
  rwa [show fold (-1) = 1 from rfl, digs_lt (by decide)] at h

def BoolB (b : Bool) (w : World) (e : Ending) (w' : World) : Prop := e = .returned (.bool b) ∧ Below w.heap.size w w'
theorem below_trans {w w1 w2 : World} (h : Below w.heap.size w w1) (k : Below w1.heap.size w1 w2) : Below w.heap.size w w2 := h.trans (k.mono h.size)

end Go.Proofs.Ytndakbjmahkjdaa

/-
  Contracts of Add, Mul64 and Times of package pack, for all integers that an int holds.
-/
namespace Go.Proofs.Ytndakbjmahkjdaa
open Go.ChangeShapes Go.WideShapes Go.ChangeAt Go.RowKit Go.Lib

def TwoI (a : Int) (b : Int) (w : World) (e : Ending) (w' : World) : Prop := e = .returned (.tuple #[.int .i64 a, .int .i64 b]) ∧ w = w'
theorem two_i {a b c d : Int} {w : World} (h : a = c) (h' : b = d) : TwoI c d w (.returned (.tuple #[.int .i64 a, .int .i64 b])) w := by subst h; subst h'; exact ⟨rfl, rfl⟩

/-- What Add answers. -/
def addV (a b : Int) : Int := if mayB a = true ∧ mayB b = true ∧ mayB (a + b) = true then a + b else 0
def addE (a b : Int) : Int := if mayB a = true ∧ mayB b = true then (if mayB (a + b) = true then 0 else 2) else 1

def TwoU (a : Nat) (b : Nat) (w : World) (e : Ending) (w' : World) : Prop := e = .returned (.tuple #[.int .u64 a, .int .u64 b]) ∧ w = w'

set_option maxHeartbeats 1000000 in
theorem Mul64_any (x y : Nat) (hx : x < 18446744073709551616) (hy : y < 18446744073709551616) (w : World) :
    Calls Try.prog 72 #[.int .u64 x, .int .u64 y] w (TwoU (x * y / 18446744073709551616) (x * y % 18446744073709551616) w) := by
  obtain ⟨k1, k2, k3, hi⟩ := Lib.mul64_hi x y hx hy
  have p1 := Lib.half_mul_le (a := x / 4294967296) (b := y / 4294967296) (by omega) (by omega)
  have p2 := Lib.half_mul_le (a := x / 4294967296) (b := y % 4294967296) (by omega) (by omega)
  have p3 := Lib.half_mul_le (a := x % 4294967296) (b := y / 4294967296) (by omega) (by omega)
  have q1 : x / 4294967296 * (y / 4294967296) < 18446744073709551616 := by omega
  have q2 : x / 4294967296 * (y % 4294967296) < 18446744073709551616 := by omega
  have q3 : x % 4294967296 * (y / 4294967296) < 18446744073709551616 := by omega
  have q4 : x / 4294967296 * (y / 4294967296) + (x / 4294967296 * (y % 4294967296) + x % 4294967296 * (y % 4294967296) / 4294967296) / 4294967296 < 18446744073709551616 := by omega
  have q5 : x / 4294967296 * (y / 4294967296) + (x / 4294967296 * (y % 4294967296) + x % 4294967296 * (y % 4294967296) / 4294967296) / 4294967296 + ((x / 4294967296 * (y % 4294967296) + x % 4294967296 * (y % 4294967296) / 4294967296) % 4294967296 + x % 4294967296 * (y / 4294967296)) / 4294967296 < 18446744073709551616 := by omega
  have HI := Lib.hid hi
  clear hi
  go_enter Try.func72, Try.ntmps72
  go_wp2
  simp only [Mul64.maskN x hx, Mul64.maskN y hy, Mul64.divN, Mul64.mulN, Mul64.addN, Mul64.wrapN _ k1, Mul64.wrapN _ q2, Mul64.wrapN _ k2, Mul64.maskN _ k2, Mul64.wrapN _ q3, Mul64.wrapN _ k3, Mul64.wrapN _ q1, Mul64.wrapN _ q4, Mul64.wrapN _ q5, Mul64.wrapM (x * y)]
  rw [HI.out]
  go_ret2
  exact ⟨rfl, rfl⟩

/-- What Times answers. -/
def timesV (a b : Int) : Int := if mayB a = true ∧ mayB b = true ∧ mayB (a * b) = true then a * b else 0
def timesE (a b : Int) : Int := if mayB a = true ∧ mayB b = true then (if mayB (a * b) = true then 0 else 2) else 1

theorem nat_may {a b : Int} : mayB (a * b) = true ↔ a.natAbs * b.natAbs ≤ 1152921504606846976 := by
  rw [mayB_t, ← Int.natAbs_mul]; omega

theorem Mul64_small (x y : Nat) (hx : x < 18446744073709551616) (hy : y < 18446744073709551616) (h : x * y ≤ 1152921504606846976) :
    ∃ lo : Nat, lo ≤ 1152921504606846976 ∧ ∀ w : World, Calls Try.prog 72 #[.int .u64 x, .int .u64 y] w (TwoU 0 lo w) := by
  refine ⟨x * y, h, fun w => ?_⟩
  have := Mul64_any x y hx hy w
  rwa [Nat.div_eq_of_lt (by omega), Nat.mod_eq_of_lt (by omega)] at this
theorem Mul64_big (x y : Nat) (hx : x < 18446744073709551616) (hy : y < 18446744073709551616) (h : ¬ x * y ≤ 1152921504606846976) :
    ∃ hi lo : Nat, (0 < hi ∨ (hi = 0 ∧ 1152921504606846976 < lo)) ∧ ∀ w : World, Calls Try.prog 72 #[.int .u64 x, .int .u64 y] w (TwoU hi lo w) := by
  refine ⟨x * y / 18446744073709551616, x * y % 18446744073709551616, ?_, Mul64_any x y hx hy⟩
  generalize x * y = p at h
  omega

end Go.Proofs.Ytndakbjmahkjdaa

/-
  Plain mathematics of reading numbers: the place of a number's last digit, what digits are worth, what a folded number stands for. Nothing of the program.
-/
namespace Go.Proofs.Ytndakbjmahkjdaa

/-- i is the place of the last digit of the number that the text begins with. -/
def IsLast (s : ByteArray) (i : Nat) : Prop := ∃ h : i < s.size, i < 9 ∧ s[i].toNat < 128 ∧ ∀ j (hj : j < i), 128 ≤ (s[j]'(by omega)).toNat
/-- Among its first nine bytes the text has no last digit. -/
def NoLast (s : ByteArray) : Prop := ∀ j (h : j < s.size), j < 9 → 128 ≤ s[j].toNat

theorem last_or (s : ByteArray) : (∃ i, IsLast s i) ∨ NoLast s := by
  by_cases h : ∃ i, IsLast s i
  · exact .inl h
  · right
    have key : ∀ n j (hj : j < s.size), j ≤ n → j < 9 → 128 ≤ s[j].toNat := by
      intro n
      induction n with
      | zero =>
        intro j hj hn h9
        obtain rfl : j = 0 := by omega
        apply Classical.byContradiction
        intro hc
        exact h ⟨0, hj, by omega, by omega, fun k hk => by omega⟩
      | succ n ih =>
        intro j hj hn h9
        apply Classical.byContradiction
        intro hc
        exact h ⟨j, hj, h9, by omega, fun k hk => ih k (by omega) (by omega) (by omega)⟩
    exact fun j hj h9 => key j j hj (Nat.le_refl _) h9
theorem last_not {s : ByteArray} {i : Nat} (h : IsLast s i) (k : NoLast s) : False := by
  obtain ⟨hi, h9, h1, _⟩ := h
  have := k i hi h9
  omega
theorem last_unique {s : ByteArray} {i j : Nat} (h : IsLast s i) (k : IsLast s j) : i = j := by
  obtain ⟨hi, h9, h1, h2⟩ := h
  obtain ⟨ki, k9, k1, k2⟩ := k
  apply Classical.byContradiction
  intro hne
  by_cases hl : i < j
  · have := k2 i hl; omega
  · have := h2 j (by omega); omega

/-- What digits are worth, the lowest first. -/
def val : List UInt8 → Nat
  | [] => 0
  | b :: t => b.toNat % 128 + 128 * val t
theorem val_lt : ∀ l : List UInt8, val l < 128 ^ l.length
  | [] => by simp [val]
  | b :: t => by
    have := val_lt t
    have hb : b.toNat % 128 < 128 := Nat.mod_lt _ (by omega)
    simp only [val, List.length_cons, Nat.pow_succ]
    omega
theorem val_lt9 (l : List UInt8) (h : l.length ≤ 9) : val l < 9223372036854775808 := by
  have h1 := val_lt l
  have h2 : 128 ^ l.length ≤ 128 ^ 9 := Nat.pow_le_pow_right (by omega) h
  have h3 : (128 : Nat) ^ 9 = 9223372036854775808 := by decide
  omega
theorem val_drop (l : List UInt8) (k : Nat) (h : k < l.length) : val (l.drop k) = l[k].toNat % 128 + 128 * val (l.drop (k + 1)) := by
  rw [List.drop_eq_getElem_cons h]; rfl
/-- Below seven bits a place that is left to read. -/
theorem val_drop_lt (l : List UInt8) (k : Nat) (h : k < l.length) (h9 : l.length ≤ 9) : val (l.drop (k + 1)) < 72057594037927936 := by
  have h1 := val_lt (l.drop (k + 1))
  have h2 : 128 ^ (l.drop (k + 1)).length ≤ 128 ^ 8 := Nat.pow_le_pow_right (by omega) (by rw [List.length_drop]; omega)
  have h3 : (128 : Nat) ^ 8 = 72057594037927936 := by decide
  omega

theorem val_step (s : ByteArray) (k : Nat) (h : k < s.size) : val (s.data.toList.drop k) = s[k].toNat % 128 + 128 * val (s.data.toList.drop (k + 1)) := by
  rw [val_drop _ _ (by simpa using h)]; rfl
theorem val_step_lt (s : ByteArray) (k : Nat) (h : k < s.size) (h9 : s.size ≤ 9) : val (s.data.toList.drop (k + 1)) < 72057594037927936 := val_drop_lt _ _ (by simpa using h) (by simpa using h9)

theorem ext_step (s : ByteArray) (i k : Nat) (hi : i < s.size) (hk : k ≤ i) : val ((s.extract 0 (i + 1)).data.toList.drop k) = (s[k]'(by omega)).toNat % 128 + 128 * val ((s.extract 0 (i + 1)).data.toList.drop (k + 1)) := by
  have hz : k < (s.extract 0 (i + 1)).size := by rw [ByteArray.size_extract]; omega
  rw [val_step _ k hz]
  congr 3
  rw [ByteArray.getElem_extract]
  simp
theorem ext_size (s : ByteArray) (i : Nat) (h : i < s.size) : (s.extract 0 (i + 1)).size = i + 1 := by
  rw [ByteArray.size_extract]; omega
theorem ext_step_lt (s : ByteArray) (i k : Nat) (hi : i < s.size) (h9 : i < 9) (hk : k ≤ i) : val ((s.extract 0 (i + 1)).data.toList.drop (k + 1)) < 72057594037927936 :=
  val_step_lt _ k (by rw [ext_size s i hi]; omega) (by rw [ext_size s i hi]; omega)

/-- What a folded number stands for. -/
def unf (u : Nat) : Int := if u % 2 = 1 then - ((u / 2 : Nat) : Int) - 1 else ((u / 2 : Nat) : Int)
end Go.Proofs.Ytndakbjmahkjdaa
