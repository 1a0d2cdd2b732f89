/-
  Joined: On, Bytes, Frm.
-/
import Derived.Test.YtndakbjmahkjdaaMj
import Derived.OwnWalk
import Derived.WalkSpells
import Derived.Laws.AppendOwn
import Derived.Laws.IdiomStrings
import Derived.Test.YtndakbjmahkjdaaMi

/-
  Contracts of On and Of of package check, and of the reference's On and Of: the check of any bytes, on from any other one.
-/
namespace Go.Proofs.Ytndakbjmahkjdaa.Crc
open Go.ChangeShapes Go.WideShapes Go.ChangeAt Go.RowKit

theorem take_snoc (s : ByteArray) (k : Nat) (h : k < s.size) : s.data.toList.take (k + 1) = s.data.toList.take k ++ [s[k]] := by
  rw [List.take_succ_eq_append_getElem (by simpa using h)]; rfl
theorem take_all (s : ByteArray) : s.data.toList.take s.size = s.data.toList := List.take_of_length_le (by simp)

theorem div_xor (x y : Nat) (hx : x < 4294967296) (hy : y < 4294967296) : bits .xor .u32 ((x : Int) / 256) (y : Int) = ((x / 256 ^^^ y : Nat) : Int) := by
  have := u32_xor_nat (x / 256) y (by omega) hy
  rwa [Int.natCast_ediv] at this

def U32B (n : Nat) (w : World) (e : Ending) (w' : World) : Prop := e = .returned (.int .u32 n) ∧ Below w.heap.size w w'

set_option maxHeartbeats 1000000 in
set_option maxRecDepth 100000 in
theorem On_any (c : Nat) (h : c < 4294967296) (s : ByteArray) (hs : s.size ≤ maxLen) (w : World) : Calls Try.prog 81 #[.int .u32 c, .string s] w (U32B (crcOn c s.data.toList) w) := by
  unfold maxLen at hs
  obtain ⟨hz, hi⟩ := zero_of_info info23
  have HI := Lib.hid hi
  rw [← tabN_zero] at hz
  have HZ := Lib.hid hz
  have HX : Hid (bits .xor .u32 (c : Int) 4294967295 = ((c ^^^ 4294967295 : Nat) : Int)) := u32_xor_nat c 4294967295 h (by omega)
  have h' : c ^^^ 4294967295 < 4294967296 := Nat.xor_lt_two_pow (n := 32) (by omega) (by omega)
  have HD : Hid (crcOn c s.data.toList = onL (c ^^^ 4294967295) s.data.toList ^^^ 4294967295) := rfl
  generalize crcOn c s.data.toList = R at HD
  generalize c ^^^ 4294967295 = d at HX h' HD
  obtain ⟨T, HT, HS, HS0, H1, HC⟩ : ∃ T : Array Value, Hid (tabN 256 = T) ∧ Hid (T.size = 256) ∧ Hid ((tabN 0).size = T.size) ∧ Hid (T.all (·.oneCell') = true) ∧ Hid (∀ j, j < 256 → T[j]? = some (.int .u32 (off 8 j : Nat))) :=
    ⟨tabN 256, rfl, tabN_size _, by unfold Hid; rw [tabN_size, tabN_size], tabN_one _, fun j hj => tabN_at 256 j hj hj⟩
  generalize tabN 0 = Z at HZ HS0
  clear hi hz
  have hz := HZ.out
  go_enter Try.func81, Try.ntmps81
  go_wp2_with (first
    | (go_at_call 86; refine (Table_any _).mono ?_; rintro e w1 ⟨rfl, hb⟩; rw [HT.out])
    | (refine wpList_store_row rfl 139 _ _ rfl w1.heap.size T rfl rfl 139 Z (heap_alloc_new _ _) (by rw [HS.out]; exact HI.out) HS0.out H1.out ?_))
  rw [World.setRow_alloc_new, HX.out]
  go_loop [0, 12] (fun v i => ∃ k : Nat, k ≤ s.size ∧ i = .int .i64 k ∧ v = .int .u32 (onL d (s.data.toList.take k) : Nat)) (fun _ i => s.size - (Go.RowKit.intOf i).toNat)
  case atStart => exact ⟨0, Nat.zero_le _, rfl, rfl⟩
  case round =>
    obtain ⟨k, hk, rfl, rfl⟩ := hrel
    have hl := onL_lt (s.data.toList.take k) h'
    by_cases hlt : k < s.size
    · have HN : Hid (onL d (s.data.toList.take (k + 1)) = off 8 (onL d (s.data.toList.take k) ^^^ s[k].toNat)) := by unfold Hid; rw [take_snoc s k hlt, onL_snoc]
      generalize onL d (s.data.toList.take k) = x at hl HN
      have hbyte := s[k].toNat_lt
      have HJ : Hid (bits .xor .u8 ((x : Int) % 256) (s[k].toNat : Int) = ((x % 256 ^^^ s[k].toNat : Nat) : Int)) := u8_xor_nat (x % 256) s[k].toNat (by omega) (by omega)
      have hj : x % 256 ^^^ s[k].toNat < 256 := Nat.xor_lt_two_pow (n := 8) (by omega) (by omega)
      have HE : Hid (onL d (s.data.toList.take (k + 1)) = x / 256 ^^^ off 8 (x % 256 ^^^ s[k].toNat)) := by unfold Hid; rw [HN.out, off8_table]
      clear HN
      generalize x % 256 ^^^ s[k].toNat = j at HJ hj HE
      have hc : (w1.alloc (.cells T 139)).cell? ⟨w1.heap.size, j, none⟩ = some (.int .u32 (off 8 j : Nat)) := by
        rw [cell_of_row _ _ j T _ _ (heap_alloc_new _ _)]; exact HC.out j hj
      have ho := off_lt 8 (c := j) (by omega)
      generalize off 8 j = y at hc ho HE
      have hjj := HJ.out
      go_wp2
      go_round
      case rel => exact ⟨k + 1, by omega, by go_num, v_int (by rw [HE.out]; exact div_xor x y hl ho)⟩
      case measure => simp [Go.RowKit.intOf]; omega
    · obtain rfl : k = s.size := by omega
      rw [take_all]
      have hl' := onL_lt s.data.toList h'
      clear hl
      generalize onL d s.data.toList = x at hl' HD
      go_wp2
      go_ret
      exact ⟨ret_int (by rw [HD.out]; exact u32_xor_nat x 4294967295 hl' (by omega)), hb.alloc hb.size _⟩

theorem Of_any (s : ByteArray) (hs : s.size ≤ maxLen) (w : World) : Calls Try.prog 69 #[.string s] w (U32B (crcOn 0 s.data.toList) w) := by
  go_enter Try.func69, Try.ntmps69
  go_wp2_with (go_at_call 81; refine (On_any 0 (by omega) s hs _).mono ?_; rintro e w' ⟨rfl, hb⟩)
  go_ret
  exact ⟨rfl, hb⟩

end Go.Proofs.Ytndakbjmahkjdaa.Crc

/-
  Contracts of Bytes of package check and of the reference's Bytes: a number's four bytes, the lowest first.
-/
namespace Go.Proofs.Ytndakbjmahkjdaa.Crc
open Go.ChangeShapes Go.WideShapes Go.ChangeAt Go.RowKit Go.Lib

def four (c : Nat) : List UInt8 := [UInt8.ofNat (c % 256), UInt8.ofNat (c / 256 % 256), UInt8.ofNat (c / 65536 % 256), UInt8.ofNat (c / 16777216 % 256)]
def TextB (l : List UInt8) (w : World) (e : Ending) (w' : World) : Prop := e = .returned (.string ⟨l.toArray⟩) ∧ Below w.heap.size w w'

theorem four_back (c : Nat) (h : c < 4294967296) (w : World) :
    (convert 46 9 (.slice (some ⟨w.heap.size, 0, none⟩) 4 4)).run Try.prog (w.alloc (.cells #[.int .u8 ((c : Int) % 256), .int .u8 ((c : Int) / 256 % 256), .int .u8 ((c : Int) / 65536 % 256), .int .u8 ((c : Int) / 16777216)] 5)) =
      .ok (.string ⟨(four c).toArray⟩) (w.alloc (.cells #[.int .u8 ((c : Int) % 256), .int .u8 ((c : Int) / 256 % 256), .int .u8 ((c : Int) / 65536 % 256), .int .u8 ((c : Int) / 16777216)] 5)) := by
  refine run_convert_bytes_back _ 46 9 5 ⟨w.heap.size, 0, none⟩ 4 (four c) Try.underlying46 Try.underlying5 Try.underlying9 ?_
  intro j hj
  rw [Addr.add_mid, cell_of_row _ _ _ _ _ _ (heap_alloc_new _ _)]
  match j, hj with
  | 0, _ => simp [four]
  | 1, _ => simp [four]
  | 2, _ => simp [four]
  | 3, _ => simp [four]; omega

set_option maxHeartbeats 1000000 in
theorem Bytes_any (c : Nat) (h : c < 4294967296) (w : World) : Calls Try.prog 68 #[.int .u32 c] w (TextB (four c) w) := by
  have hc := four_back c h w
  go_enter Try.func68, Try.ntmps68
  go_wp2
  go_ret
  exact ⟨rfl, (Below.refl _ _).alloc (Nat.le_refl _) _⟩

theorem Try.info5 : (Try.prog.info? 5).map (fun i => (i.zero, i.size, i.bytes)) = some (some (.int .u8 0), 1, 1) := by kernel_rfl

def bcells (l : List UInt8) : List Value := l.map fun b => Value.int .u8 (b.toNat : Int)
theorem bcells_snoc (l : List UInt8) (b : UInt8) : bcells (l ++ [b]) = bcells l ++ [Value.int .u8 (b.toNat : Int)] := by simp [bcells]

/-- Cells that are owned, one more behind them: the relation of a loop that appends one byte. -/
theorem own_snoc {B : Nat} {e : TypeId} {v v' : Value} {p : List UInt8} (b : UInt8) {x : Int} (hx : x = (b.toNat : Int)) {w wr w1 : World} {o : Obj} (hB : B ≤ wr.heap.size)
    (hown : wr.ownsRow B e 1 v p.length (bcells p)) (hnx : Below B w wr)
    (hown' : w1.ownsRow B e 1 v' (p.length + 1) (bcells p ++ [.int .u8 x])) (hgrow : (wr.alloc o).grownBy w1 v.ownBlock) :
    w1.ownsRow B e 1 v' (p ++ [b]).length (bcells (p ++ [b])) ∧ Below B w w1 := by
  subst hx
  refine ⟨by rw [bcells_snoc]; simpa using hown', (hnx.alloc hB o).grown hgrow (by simp; omega) (fun j hj => (hown.lt j hj).1)⟩

/-- 'string(b)' of a row of bytes that is owned. -/
theorem own_string {P : Program} {B : Nat} {src dst e : TypeId} {v : Value} {l : List UInt8} {w : World} (hs : P.underlying src = some (.slice e)) (he : P.underlying e = some (.int .u8)) (hd : P.underlying dst = some .string)
    (hown : w.ownsRow B e 1 v l.length (bcells l)) : l ≠ [] → (convert src dst v).run P w = .ok (.string ⟨l.toArray⟩) w := by
  intro hne
  have hw := hown
  obtain ⟨_, h | ⟨g, cap, cur, rfl, _, _, _, _, _, _⟩⟩ := hown
  · exact absurd (List.length_eq_zero_iff.1 h.2) hne
  · refine run_convert_bytes_back w src dst e ⟨g, 0, none⟩ cap l hs he hd ?_
    intro j hj
    exact hw.cells rfl j _ (by simp [bcells, List.getElem?_map, List.getElem?_eq_getElem hj])

/-- So many of the number's bytes, the lowest first. -/
def low : Nat → Nat → List UInt8
  | 0, _ => []
  | k + 1, c => low k c ++ [UInt8.ofNat (c / 256 ^ k % 256)]
theorem low_len (k c : Nat) : (low k c).length = k := by
  induction k with
  | zero => rfl
  | succ k ih => simp [low, ih]
theorem low4 (c : Nat) : low 4 c = four c := by simp [low, four]

theorem made_one (x : World) (e : TypeId) : (x.alloc (.cells #[] e)).ownsRow x.heap.size e 1 (.slice (some ⟨x.heap.size, 0, none⟩) 0 0) 0 [] := by
  have h := World.ownsRow_made (base := x.heap.size) (e := e) (size := 1) x #[] 0 (Nat.le_refl _) (by decide) rfl
  simpa using h

end Go.Proofs.Ytndakbjmahkjdaa.Crc

/-
  Plain mathematics of records' bytes: what a record's bytes are, with which record a text begins, which records a text has; records one behind the other, a beginning of them, a record that is hurt. Nothing is walked here.
-/
namespace Go.Proofs.Ytndakbjmahkjdaa.Frame
open Go.Proofs.Ytndakbjmahkjdaa.Crc (four crcOn crcOn_lt)

/-- A record's bytes. -/
def frm (d : ByteArray) : List UInt8 := digs (fold d.size) ++ (d.data.toList ++ four (crcOn 0 d.data.toList))
/-- The text s begins with the record d, with r behind it. -/
def Is (s d r : ByteArray) : Prop := d.size ≤ 4096 ∧ s.data.toList = frm d ++ r.data.toList
/-- The text begins with no record. -/
def No (s : ByteArray) : Prop := ∀ d r, ¬ Is s d r

theorem four_len (c : Nat) : (four c).length = 4 := rfl
theorem size_list (s : ByteArray) : s.data.toList.length = s.size := by simp
theorem frm_len (d : ByteArray) : (frm d).length = (digs (fold d.size)).length + d.size + 4 := by
  unfold frm; rw [List.length_append, List.length_append, four_len, size_list]; omega
theorem frm_pos (d : ByteArray) : 5 ≤ (frm d).length := by
  have := digs_len_pos (fold d.size); rw [frm_len]; omega
theorem fold_nat (n : Nat) : fold (n : Int) = 2 * n := by unfold fold; rw [if_neg (by omega)]; omega
theorem frm_le (d : ByteArray) (h : d.size ≤ 4096) : (frm d).length ≤ d.size + 13 := by
  have := digs_len9 (fold d.size) (by rw [fold_nat]; omega); rw [frm_len]; omega
theorem mk_list (l : List UInt8) : (⟨l.toArray⟩ : ByteArray).data.toList = l := by simp
theorem mk_size (l : List UInt8) : (⟨l.toArray⟩ : ByteArray).size = l.length := by simp [ByteArray.size]
theorem mk_of (s : ByteArray) : (⟨s.data.toList.toArray⟩ : ByteArray) = s := same_bytes (by simp)

theorem rd_det {s t t' : ByteArray} {n n' : Int} (h : Rd s n t 0) (h' : Rd s n' t' 0) : n = n' ∧ t = t' := by
  obtain ⟨i, hi, _, _, rfl, rfl⟩ := rd_good h
  obtain ⟨j, hj, _, _, rfl, rfl⟩ := rd_good h'
  obtain rfl := last_unique hi hj
  exact ⟨rfl, rfl⟩
theorem rd_of_is {s d r : ByteArray} (h : Is s d r) : Rd s d.size ⟨(d.data.toList ++ (four (crcOn 0 d.data.toList) ++ r.data.toList)).toArray⟩ 0 := by
  obtain ⟨h1, h2⟩ := h
  refine rd_of (mayB_t.2 ⟨by omega, by omega⟩) ?_
  rw [h2, mk_list]; simp [frm]
theorem app_inj {a b c d : List UInt8} (h : a ++ b = c ++ d) (hl : a.length = c.length) : a = c ∧ b = d := List.append_inj h hl
theorem is_det {s d r d' r' : ByteArray} (h : Is s d r) (h' : Is s d' r') : d = d' ∧ r = r' := by
  obtain ⟨e1, e2⟩ := rd_det (rd_of_is h) (rd_of_is h')
  have e3 := congrArg (fun x : ByteArray => x.data.toList) e2
  simp only at e3
  obtain ⟨e4, e5⟩ := app_inj e3 (by rw [size_list, size_list]; omega)
  obtain ⟨_, e6⟩ := app_inj e5 (by rw [four_len, four_len])
  exact ⟨same_bytes e4, same_bytes e6⟩
theorem is_size {s d r : ByteArray} (h : Is s d r) : r.size + 5 ≤ s.size := by
  have h1 := congrArg List.length h.2
  have := frm_pos d
  rw [List.length_append, size_list, size_list] at h1
  omega
theorem is_size' {s d r : ByteArray} (h : Is s d r) : s.size = (frm d).length + r.size := by
  have h1 := congrArg List.length h.2
  rwa [List.length_append, size_list, size_list] at h1
theorem no_short {s : ByteArray} (h : s.size < 5) : No s := fun _ _ hi => by have := is_size hi; omega

theorem cut_list (t : ByteArray) (i j : Nat) : (t.extract i j).data.toList = (t.data.toList.drop i).take (j - i) := by
  rw [Go.Lib.extract_data]

/-- With which record a text begins, as it is found out. -/
theorem looks (s : ByteArray) : ∃ n t b, Rd s n t b ∧ ((b ≠ 0 ∧ No s) ∨ (b = 0 ∧ n < 0 ∧ No s) ∨ (b = 0 ∧ 4096 < n ∧ No s) ∨ (∃ k : Nat, b = 0 ∧ n = k ∧ k ≤ 4096 ∧ t.size < k + 4 ∧ No s) ∨
    (∃ k : Nat, b = 0 ∧ n = k ∧ k ≤ 4096 ∧ k + 4 ≤ t.size ∧ t.extract k (k + 4) ≠ ⟨(four (crcOn 0 (t.extract 0 k).data.toList)).toArray⟩ ∧ No s) ∨
    (∃ k : Nat, b = 0 ∧ n = k ∧ k ≤ 4096 ∧ k + 4 ≤ t.size ∧ t.extract k (k + 4) = ⟨(four (crcOn 0 (t.extract 0 k).data.toList)).toArray⟩ ∧ Is s (t.extract 0 k) (t.extract (k + 4) t.size))) := by
  obtain ⟨n, t, b, h⟩ := rd_some s
  refine ⟨n, t, b, h, ?_⟩
  have key : ∀ d r, Is s d r → b = 0 ∧ n = d.size ∧ d.size ≤ 4096 ∧ t.data.toList = d.data.toList ++ (four (crcOn 0 d.data.toList) ++ r.data.toList) := by
    intro d r hi
    have hr := rd_of_is hi
    have hb : b = 0 := by
      apply Classical.byContradiction
      intro hb
      obtain ⟨i, hil, hz, hm, he, _⟩ := rd_good hr
      rcases h with ⟨h1, _⟩ | ⟨j, hj, ha⟩
      · exact last_not hil h1
      · obtain rfl := last_unique hil hj
        rcases ha with ⟨h1, h2, _, _, _⟩ | ⟨h1, h2, _, _, _⟩ | ⟨_, _, _, _, h3⟩
        · rcases hz with hz | ⟨_, hz⟩
          · omega
          · exact hz hil.1 (h2 hil.1)
        · rw [h2] at hm; cases hm
        · exact hb h3
    subst hb
    obtain ⟨e1, e2⟩ := rd_det h hr
    exact ⟨rfl, e1, hi.1, by rw [e2, mk_list]⟩
  by_cases hb : b = 0
  · subst hb
    by_cases h1 : n < 0
    · exact .inr (.inl ⟨rfl, h1, fun d r hi => by have := (key d r hi).2.1; omega⟩)
    by_cases h2 : 4096 < n
    · exact .inr (.inr (.inl ⟨rfl, h2, fun d r hi => by have := (key d r hi).2; omega⟩))
    obtain ⟨k, rfl⟩ : ∃ k : Nat, n = k := ⟨n.toNat, by omega⟩
    by_cases h3 : t.size < k + 4
    · refine .inr (.inr (.inr (.inl ⟨k, rfl, rfl, by omega, h3, fun d r hi => ?_⟩)))
      obtain ⟨_, e1, _, e2⟩ := key d r hi
      have := congrArg List.length e2
      rw [List.length_append, List.length_append, four_len, size_list, size_list] at this
      omega
    · have hx0 : (t.extract 0 k).data.toList = t.data.toList.take k := by rw [cut_list]; simp
      have hx1 : (t.extract k (k + 4)).data.toList = (t.data.toList.drop k).take 4 := by rw [cut_list]; congr 1; omega
      have hx2 : (t.extract (k + 4) t.size).data.toList = t.data.toList.drop (k + 4) := drop_list _ _
      have hz : (t.extract 0 k).size = k := by rw [ByteArray.size_extract]; omega
      by_cases h4 : t.extract k (k + 4) = ⟨(four (crcOn 0 (t.extract 0 k).data.toList)).toArray⟩
      · refine .inr (.inr (.inr (.inr (.inr ⟨k, rfl, rfl, by omega, by omega, h4, by rw [hz]; omega, ?_⟩))))
        have e5 := congrArg (fun x : ByteArray => x.data.toList) h4
        simp only at e5
        unfold frm
        rw [hz, ← e5, hx0, hx1, hx2, ← (rd_back h).2, List.append_assoc, List.append_assoc]
        congr 1
        rw [← List.drop_drop, List.take_append_drop, List.take_append_drop]
      · refine .inr (.inr (.inr (.inr (.inl ⟨k, rfl, rfl, by omega, by omega, h4, fun d r hi => h4 ?_⟩))))
        obtain ⟨_, e1, _, e2⟩ := key d r hi
        have ek : k = d.size := by omega
        have hd : (t.extract 0 k).data.toList = d.data.toList := by
          rw [hx0, e2, List.take_left' (by rw [size_list]; omega)]
        apply same_bytes
        rw [mk_list, hd, hx1, e2, List.drop_left' (by rw [size_list]; omega), List.take_left' (four_len _)]
  · exact .inl ⟨hb, fun d r hi => hb (key d r hi).1⟩

/-- The records of a text, and what is left behind them. -/
inductive Scn : ByteArray → List ByteArray → ByteArray → Prop
  | done (s : ByteArray) : No s → Scn s [] s
  | more (s d r : ByteArray) (l : List ByteArray) (t : ByteArray) : Is s d r → Scn r l t → Scn s (d :: l) t
def frms : List ByteArray → List UInt8
  | [] => []
  | d :: l => frm d ++ frms l
theorem frms_append (l m : List ByteArray) : frms (l ++ m) = frms l ++ frms m := by
  induction l with
  | nil => rfl
  | cons d l ih => simp [frms, ih]
theorem frms_snoc (l : List ByteArray) (d : ByteArray) : frms (l ++ [d]) = frms l ++ frm d := by rw [frms_append]; simp [frms]
theorem is_or (s : ByteArray) : (∃ d r, Is s d r) ∨ No s := by
  by_cases h : ∃ d r, Is s d r
  · exact .inl h
  · exact .inr fun d r hi => h ⟨d, r, hi⟩
theorem scn_some (n : Nat) : ∀ s : ByteArray, s.size ≤ n → ∃ l t, Scn s l t := by
  induction n with
  | zero => exact fun s h => ⟨[], s, .done s (no_short (by omega))⟩
  | succ n ih =>
    intro s h
    rcases is_or s with ⟨d, r, hi⟩ | hn
    · obtain ⟨l, t, hl⟩ := ih r (by have := is_size hi; omega)
      exact ⟨d :: l, t, .more _ _ _ _ _ hi hl⟩
    · exact ⟨[], s, .done s hn⟩
theorem scn_det {s : ByteArray} {l : List ByteArray} {t : ByteArray} (h : Scn s l t) : ∀ {l' t'}, Scn s l' t' → l = l' ∧ t = t' := by
  induction h with
  | done s hn =>
    intro l' t' h'
    cases h' with
    | done => exact ⟨rfl, rfl⟩
    | more _ d r l _ hi => exact absurd hi (hn _ _)
  | more s d r l t hi _ ih =>
    intro l' t' h'
    cases h' with
    | done _ hn => exact absurd hi (hn _ _)
    | more _ d' r' l _ hi' hr' =>
      obtain ⟨rfl, rfl⟩ := is_det hi hi'
      obtain ⟨rfl, rfl⟩ := ih hr'
      exact ⟨rfl, rfl⟩
theorem scn_bytes {s : ByteArray} {l : List ByteArray} {t : ByteArray} (h : Scn s l t) : s.data.toList = frms l ++ t.data.toList ∧ (∀ d ∈ l, d.size ≤ 4096) ∧ t.size + 5 * l.length ≤ s.size := by
  induction h with
  | done s hn => exact ⟨rfl, by simp, by simp⟩
  | more s d r l t hi _ ih =>
    refine ⟨by rw [hi.2, ih.1]; simp [frms], fun x hx => ?_, ?_⟩
    · rcases List.mem_cons.1 hx with rfl | hx
      · exact hi.1
      · exact ih.2.1 x hx
    · have := is_size hi; have := ih.2.2; simp only [List.length_cons]; omega
theorem scn_pre {r : ByteArray} {m : List ByteArray} {t : ByteArray} (h : Scn r m t) : ∀ (l : List ByteArray) (s : ByteArray), (∀ d ∈ l, d.size ≤ 4096) → s.data.toList = frms l ++ r.data.toList → Scn s (l ++ m) t := by
  intro l
  induction l with
  | nil =>
    intro s _ e
    have : s = r := same_bytes (by simpa [frms] using e)
    subst this; exact h
  | cons d l ih =>
    intro s hl e
    refine .more s d ⟨(frms l ++ r.data.toList).toArray⟩ _ _ ⟨hl d (by simp), by rw [e, mk_list]; simp [frms]⟩ (ih _ (fun x hx => hl x (by simp [hx])) (mk_list _))
/-- Of a beginning of records' bytes a beginning of them is scanned. -/
theorem scn_take (l : List ByteArray) : ∀ (s : ByteArray) (k : Nat), (∀ d ∈ l, d.size ≤ 4096) → s.data.toList = (frms l).take k → ∃ j t, j ≤ l.length ∧ Scn s (l.take j) t := by
  induction l with
  | nil =>
    intro s k _ e
    refine ⟨0, s, by simp, .done s (no_short ?_)⟩
    have e0 : s.data.toList.length = 0 := by rw [e]; simp [frms]
    rw [size_list] at e0
    omega
  | cons d l ih =>
    intro s k hl e
    by_cases hk : (frm d).length ≤ k
    · have e' : (frms (d :: l)).take k = frm d ++ (frms l).take (k - (frm d).length) := by
        rw [show frms (d :: l) = frm d ++ frms l from rfl, List.take_append, List.take_of_length_le hk]
      obtain ⟨j, t, hj, hs⟩ := ih ⟨((frms l).take (k - (frm d).length)).toArray⟩ (k - (frm d).length) (fun x hx => hl x (by simp [hx])) (mk_list _)
      exact ⟨j + 1, t, by simp; omega, .more s d _ _ _ ⟨hl d (by simp), by rw [e, e', mk_list]⟩ hs⟩
    · refine ⟨0, s, by simp, .done s fun d' r' hi => hk ?_⟩
      have h1 : Is ⟨(frms (d :: l)).toArray⟩ d ⟨(frms l).toArray⟩ := ⟨hl d (by simp), by rw [mk_list, mk_list]; rfl⟩
      have h2 : Is ⟨(frms (d :: l)).toArray⟩ d' ⟨(r'.data.toList ++ (frms (d :: l)).drop k).toArray⟩ := by
        refine ⟨hi.1, ?_⟩
        rw [mk_list, mk_list, ← List.append_assoc, ← hi.2, e, List.take_append_drop]
      obtain ⟨rfl, _⟩ := is_det h1 h2
      have := is_size' hi
      have h3 := congrArg List.length e
      rw [size_list, List.length_take] at h3
      omega
theorem four_inj {a b : Nat} (ha : a < 4294967296) (hb : b < 4294967296) (h : four a = four b) : a = b := by
  unfold four at h
  simp only [List.cons.injEq, and_true] at h
  obtain ⟨h1, h2, h3, h4⟩ := h
  have g1 := congrArg UInt8.toNat h1
  have g2 := congrArg UInt8.toNat h2
  have g3 := congrArg UInt8.toNat h3
  have g4 := congrArg UInt8.toNat h4
  simp at g1 g2 g3 g4
  omega
/-- A record whose own bytes are hurt, so that their check is another one, is none. -/
theorem no_hurt {s d d' : ByteArray} {x : List UInt8} (hd : d.size ≤ 4096) (hl : d'.size = d.size) (hc : crcOn 0 d'.data.toList ≠ crcOn 0 d.data.toList)
    (e : s.data.toList = digs (fold d.size) ++ (d'.data.toList ++ (four (crcOn 0 d.data.toList) ++ x))) : No s := by
  intro y r hi
  have h1 := rd_of_is hi
  have h2 : Rd s d.size ⟨(d'.data.toList ++ (four (crcOn 0 d.data.toList) ++ x)).toArray⟩ 0 := rd_of (mayB_t.2 ⟨by omega, by omega⟩) (by rw [e, mk_list])
  obtain ⟨e1, e2⟩ := rd_det h1 h2
  have e3 := congrArg (fun x : ByteArray => x.data.toList) e2
  simp only at e3
  obtain ⟨e4, e5⟩ := app_inj e3 (by rw [size_list, size_list]; omega)
  obtain ⟨e6, _⟩ := app_inj e5 (by rw [four_len, four_len])
  rw [e4] at e6
  exact hc (four_inj (crcOn_lt (by omega) _) (crcOn_lt (by omega) _) e6)

/-- What is handed on of a text, of m bytes in all: each record with the place where its bytes end; and what is left. -/
inductive Hands (m : Nat) : ByteArray → List (ByteArray × Int) → ByteArray → Prop
  | done (s : ByteArray) : No s → Hands m s [] s
  | more (s d r : ByteArray) (xs : List (ByteArray × Int)) (t : ByteArray) : Is s d r → Hands m r xs t → Hands m s ((d, (m : Int) - r.size) :: xs) t
theorem hands_scn {m : Nat} {s : ByteArray} {xs : List (ByteArray × Int)} {t : ByteArray} (h : Hands m s xs t) : Scn s (xs.map Prod.fst) t := by
  induction h with
  | done s hn => exact .done s hn
  | more s d r xs t hi _ ih => exact .more _ _ _ _ _ hi ih
/-- Where the last one ends. -/
def endOf (xs : List (ByteArray × Int)) : Int := (xs.getLast?.map Prod.snd).getD 0
theorem endOf_snoc (xs : List (ByteArray × Int)) (x : ByteArray × Int) : endOf (xs ++ [x]) = x.2 := by simp [endOf]
theorem hands_end {m : Nat} {s : ByteArray} {xs : List (ByteArray × Int)} {t : ByteArray} (h : Hands m s xs t) : (xs = [] ∧ t = s) ∨ (xs ≠ [] ∧ endOf xs = (m : Int) - t.size) := by
  induction h with
  | done s hn => exact .inl ⟨rfl, rfl⟩
  | more s d r xs t hi _ ih =>
    refine .inr ⟨by simp, ?_⟩
    rcases ih with ⟨rfl, rfl⟩ | ⟨h1, h2⟩
    · simp [endOf]
    · rw [← h2]
      unfold endOf
      rw [List.getLast?_cons, List.getLast?_eq_some_getLast h1]
      simp
end Go.Proofs.Ytndakbjmahkjdaa.Frame
