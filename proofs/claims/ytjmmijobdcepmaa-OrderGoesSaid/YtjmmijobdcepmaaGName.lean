/-
  Contracts of package goods: which text may be a name (isName, and the reference's Name), which rule may be (ruleMayBe, and the reference's May).
-/
import Derived.Test.YtjmmijobdcepmaaGMath
import Derived.Test.YtjmmijobdcepmaaChecked
import Derived.WalkKit
import Derived.ProofKit
import Derived.OpenShut
import Derived.OwnWalk
import Derived.WalkSpells
import Derived.Below
import Derived.Laws.AppendOwn
import Derived.Laws.IdiomStrings
import Derived.Deep.Draws
import Derived.Deep.Cut
import Derived.PlainAid
import Derived.Lib.Hide
import Derived.Lib.SmallJoins
import Derived.BigQuiet
import Derived.BigGuard
import Derived.BigRegion
import Derived.IntWalk
import Derived.Deep.QuietTactic
import Derived.Deep.RegionHeld3
import Derived.StillTailTactics
import Derived.Shelf.Abstract
namespace Go.Proofs.Ytjmmijobdcepmaa.Goods
open Go.ChangeShapes Go.WideShapes Go.ChangeAt Go.RowKit

theorem below_trans {a b c : World} (h : Below a.heap.size a b) (h' : Below b.heap.size b c) : Below a.heap.size a c := h.trans (h'.mono h.size)
theorem al (W : World) (o : Obj) : Below W.heap.size W (W.alloc o) := (Below.refl _ _).alloc (Nat.le_refl _) _
theorem dr (W : World) : Below W.heap.size W W.drew := (Below.refl _ _).drew
theorem ret_int {a b : Int} (h : a = b) : Ending.returned (.int .i64 a) = .returned (.int .i64 b) := by rw [h]
theorem ret_bool {a b : Bool} (h : a = b) : Ending.returned (.bool a) = .returned (.bool b) := by rw [h]
/-- A bool is returned; nothing that lay has turned. -/
def BoolB (b : Bool) (w : World) (e : Ending) (w' : World) : Prop := e = .returned (.bool b) ∧ Below w.heap.size w w'
/-- A number is returned; nothing that lay has turned. -/
def IntB (k : Int) (w : World) (e : Ending) (w' : World) : Prop := e = .returned (.int .i64 k) ∧ Below w.heap.size w w'

/-- A block of some cells. -/
def Box (b : Nat) (vs : List Value) (w : World) : Prop := b < w.heap.size ∧ ∀ j v, vs[j]? = some v → w.cell? ⟨b, j, none⟩ = some v ∧ w.frozen? ⟨b, j, none⟩ = false
theorem Box.below {b : Nat} {vs : List Value} {w w' : World} (h : Box b vs w) (hb : Below w.heap.size w w') : Box b vs w' :=
  ⟨Nat.lt_of_lt_of_le h.1 hb.size, fun j v hj => ⟨(hb.cell (p := ⟨b, j, none⟩) h.1).trans (h.2 j v hj).1, (hb.frozen (p := ⟨b, j, none⟩) h.1).trans (h.2 j v hj).2⟩⟩
theorem Box.made (w : World) (vs : List Value) (T : TypeId) : Box w.heap.size vs (w.alloc (.cells vs.toArray T)) := by
  refine ⟨by simp, fun j v hj => ?_⟩
  have := (List.getElem?_eq_some_iff.1 hj).1
  constructor
  · simpa using hj
  · simp

/-- Bytes of a text in a block of their own. -/
def BRow (g : Nat) (l : List UInt8) (w : World) : Prop := g < w.heap.size ∧ ∀ j (h : j < l.length), w.cell? ⟨g, j, none⟩ = some (.int .u8 (l[j].toNat : Int))
theorem BRow.below {g : Nat} {l : List UInt8} {w w' : World} (h : BRow g l w) (hb : Below w.heap.size w w') : BRow g l w' :=
  ⟨Nat.lt_of_lt_of_le h.1 hb.size, fun j hj => by rw [hb.cell (p := ⟨g, j, none⟩) h.1]; exact h.2 j hj⟩
theorem BRow.made (s : ByteArray) (w : World) : ∃ (cap : Nat) (w0 : World), s.size ≤ cap ∧ (convert 9 107 (.string s)).run Try.prog w = .ok (.slice (some ⟨w.heap.size, 0, none⟩) s.size cap) w0 ∧ BRow w.heap.size s.data.toList w0 ∧ Below w.heap.size w w0 := by
  refine ⟨_, _, ?_, run_bytes_of_string w 9 107 5 s Try.underlying9 Try.underlying107 Try.underlying5, ⟨?_, fun j hj => ?_⟩, ?_⟩
  · have := grownCap_ge w s.size 0 5
    omega
  · show w.heap.size < (w.drew.heap.push _).size
    simp
  · have := World.cell?_alloc_mark w.drew (bytesRow s (grownCap w s.size 0 5)) 5 ((bytesRow s (grownCap w s.size 0 5)).size, (bytesRow s (grownCap w s.size 0 5)).size + 1) j
    rw [show w.drew.heap.size = w.heap.size from rfl] at this
    rw [this, bytesRow_at s _ j (by simpa using hj)]
    simp
  · exact (Below.refl _ _).drew.alloc (Nat.le_refl _) _

set_option maxRecDepth 100000 in
set_option maxHeartbeats 1000000 in
theorem isName_any (s : ByteArray) (hs : s.size ≤ 1000000) (w : World) : Calls Try.prog 74 #[.string s] w (BoolB (nameB s) w) := by
  by_cases h1 : 1 ≤ s.size ∧ s.size ≤ 16
  · obtain ⟨h1, h2⟩ := h1
    have HB := Lib.hid (nameB_t h1 h2)
    obtain ⟨cap, w0, hcap, hrun, hrow, hbel⟩ := BRow.made s w
    have HR := Lib.hid hrow
    have HBE := Lib.hid hbel
    clear hrow hbel
    go_enter Try.func74, Try.ntmps74
    go_wp2
    go_loop [4, 16] (fun _ i => ∃ k : Nat, k ≤ s.size ∧ i = .int .i64 k ∧ (s.data.toList.take k).all okb = true) (fun _ i => s.size - (intOf i).toNat)
    case atStart => exact ⟨0, Nat.zero_le _, rfl, rfl⟩
    case round =>
      obtain ⟨k, hk, rfl, hall⟩ := hrel
      have HA := Lib.hid hall
      clear hall
      by_cases hlt : k < s.size
      · have hk' : k < s.data.toList.length := by simpa using hlt
        have hce := HR.out.2 k hk'
        have hg := HR.out.1
        have HAT := Lib.hid (all_take (p := okb) hk')
        have HNO := Lib.hid (not_all (p := okb) hk')
        have HT := Lib.hid (okb_t (b := s.data.toList[k]))
        have HF := Lib.hid (okb_f (b := s.data.toList[k]))
        have hlt8 := (s.data.toList[k]).toNat_lt
        generalize s.data.toList[k] = b at hce HAT HNO HT HF hlt8
        clear hk'
        cases hm : okb b with
        | true =>
          have HT2 := Lib.hid (HT.out.1 hm)
          rw [hm] at HAT
          clear HT HF HNO hm
          generalize b.toNat = c at hce hlt8 HT2
          rcases HT2.out with ⟨c1, c2⟩ | ⟨c1, c2⟩
          · go_wp2
            go_round
            case rel => exact ⟨k + 1, by omega, by go_num, by rw [HAT.out, HA.out]; rfl⟩
            case measure => simp [intOf]; omega
          · go_wp2
            go_round
            case rel => exact ⟨k + 1, by omega, by go_num, by rw [HAT.out, HA.out]; rfl⟩
            case measure => simp [intOf]; omega
        | false =>
          have HF2 := Lib.hid (HF.out.1 hm)
          have HNA := Lib.hid (HNO.out hm)
          clear HT HF HNO hm HAT
          generalize b.toNat = c at hce hlt8 HF2
          go_wp2
          all_goals first
            | (exfalso; have := HF2.out; omega)
            | (go_ret; exact ⟨ret_bool (by rw [HB.out, HNA.out]), HBE.out⟩)
      · obtain rfl : k = s.size := by omega
        go_wp2
        go_ret
        refine ⟨ret_bool ?_, HBE.out⟩
        have := HA.out
        rw [List.take_of_length_le (by simp)] at this
        rw [HB.out, this]
  · rw [nameB_no h1]
    go_enter Try.func74, Try.ntmps74
    by_cases h2 : s.size < 1
    · go_wp2
      go_ret
      exact ⟨rfl, Below.refl _ _⟩
    · have h3 : 16 < s.size := by omega
      go_wp2
      go_ret
      exact ⟨rfl, Below.refl _ _⟩
set_option maxRecDepth 100000 in
set_option maxHeartbeats 1000000 in
theorem refName_any (s : ByteArray) (hs : s.size ≤ 1000000) (w : World) : Calls Try.prog 26 #[.string s] w (BoolB (nameB s) w) := by
  have HB : Hid ((s.data.toList.all okb = true → 1 ≤ s.size → s.size ≤ 16 → nameB s = true) ∧ (s.data.toList.all okb = false → nameB s = false) ∧ (¬ (1 ≤ s.size ∧ s.size ≤ 16) → nameB s = false)) := by
    refine ⟨fun h h1 h2 => by rw [nameB_t h1 h2, h], fun h => ?_, nameB_no⟩
    unfold nameB
    rw [h, Bool.and_false]
  generalize nameB s = m at HB ⊢
  go_enter Try.func26, Try.ntmps26
  go_wp2
  go_loop [3] (fun i => ∃ k : Nat, k ≤ s.size ∧ i = .int .i64 k ∧ (s.data.toList.take k).all okb = true) (fun i => s.size - (intOf i).toNat)
  case atStart => exact ⟨0, Nat.zero_le _, rfl, rfl⟩
  case round =>
    obtain ⟨k, hk, rfl, hall⟩ := hrel
    have HA := Lib.hid hall
    clear hall
    by_cases hlt : k < s.size
    · have hk' : k < s.data.toList.length := by simpa using hlt
      have HAT : Hid ((s.data.toList.take (k + 1)).all okb = ((s.data.toList.take k).all okb && okb (s[k]'hlt))) := all_take (p := okb) hk'
      have HNO : Hid (okb (s[k]'hlt) = false → s.data.toList.all okb = false) := not_all (p := okb) hk'
      have HT := Lib.hid (okb_t (b := (s[k]'hlt)))
      have HF := Lib.hid (okb_f (b := (s[k]'hlt)))
      have hlt8 := ((s[k]'hlt)).toNat_lt
      clear hk'
      cases hm : okb (s[k]'hlt) with
      | true =>
        have HT2 := Lib.hid (HT.out.1 hm)
        rw [hm] at HAT
        clear HT HF HNO hm
        rcases HT2.out with ⟨c1, c2⟩ | ⟨c1, c2⟩
        · go_wp2
          go_round
          case rel => exact ⟨k + 1, by omega, by go_num, by rw [HAT.out, HA.out]; rfl⟩
          case measure => simp [intOf]; omega
        · go_wp2
          go_round
          case rel => exact ⟨k + 1, by omega, by go_num, by rw [HAT.out, HA.out]; rfl⟩
          case measure => simp [intOf]; omega
      | false =>
        have HF2 := Lib.hid (HF.out.1 hm)
        have HNA := Lib.hid (HNO.out hm)
        clear HT HF HNO hm HAT
        go_wp2
        all_goals first
          | (exfalso; have := HF2.out; omega)
          | (go_ret; exact ⟨ret_bool (HB.out.2.1 HNA.out).symm, Below.refl _ _⟩)
    · obtain rfl : k = s.size := by omega
      have HAL : Hid (s.data.toList.all okb = true) := Lib.hid (by have := HA.out; rwa [List.take_of_length_le (by simp)] at this)
      clear HA
      by_cases h1 : 1 ≤ s.size
      · by_cases h2 : s.size ≤ 16
        · go_wp2
          go_ret
          exact ⟨ret_bool (by have e := HB.out.1 HAL.out h1 h2; first | (rw [e]; done) | (rw [e]; simp; done) | (rw [e]; simp; omega)), Below.refl _ _⟩
        · go_wp2
          go_ret
          exact ⟨ret_bool (by have e := HB.out.2.2 (fun h => h2 h.2); first | (rw [e]; done) | (rw [e]; simp; done) | (rw [e]; simp; omega)), Below.refl _ _⟩
      · go_wp2
        go_ret
        exact ⟨ret_bool (by have e := HB.out.2.2 (fun h => h1 h.1); first | (rw [e]; done) | (rw [e]; simp; done) | (rw [e]; simp; omega)), Below.refl _ _⟩

theorem same_bytes {a b : ByteArray} (h : a.data.toList = b.data.toList) : a = b := by
  cases a; cases b
  congr 1
  exact Array.toList_inj.1 h
theorem bytes_yes {x y : ByteArray} (h : x = y) : (x.toList == y.toList) = true := by rw [h]; simp
theorem bytes_no {x y : ByteArray} (h : x ≠ y) : (x.toList == y.toList) = false := by
  cases hb : x.toList == y.toList with
  | false => rfl
  | true =>
    rw [beq_iff_eq, ByteArray.toList_eq, ByteArray.toList_eq] at hb
    exact absurd (same_bytes hb) h
/-- A rule as a value. -/
def sv (x : Sb) : Value := .agg #[.string x.f, .string x.t, .int .i64 x.r, .int .i64 x.n, .int .i64 x.d]
/-- A rule's texts are not too long. -/
def small (x : Sb) : Prop := x.f.size ≤ 1000000 ∧ x.t.size ≤ 1000000
/-- Texts of a rule and whether it may be, ahead of a walk. -/
theorem may_ways (x : Sb) : (nameB x.f = false ∧ mayB x = false) ∨ (nameB x.f = true ∧ nameB x.t = false ∧ mayB x = false) ∨ (nameB x.f = true ∧ nameB x.t = true ∧ x.f = x.t ∧ mayB x = false) ∨ (nameB x.f = true ∧ nameB x.t = true ∧ x.f ≠ x.t ∧ (numP x → mayB x = true) ∧ (¬ numP x → mayB x = false)) := by
  unfold mayB
  cases h1 : nameB x.f with
  | false => exact .inl ⟨rfl, rfl⟩
  | true =>
    cases h2 : nameB x.t with
    | false => exact .inr (.inl ⟨rfl, rfl, rfl⟩)
    | true =>
      by_cases h3 : x.f = x.t
      · exact .inr (.inr (.inl ⟨rfl, rfl, h3, by simp [h3]⟩))
      · exact .inr (.inr (.inr ⟨rfl, rfl, h3, fun h => by simp [h3, h], fun h => by simp [h]⟩))

set_option maxRecDepth 100000 in
set_option maxHeartbeats 2000000 in
theorem ruleMayBe_any (x : Sb) (hx : small x) (w : World) : Calls Try.prog 79 #[sv x] w (BoolB (mayB x) w) := by
  obtain ⟨hx1, hx2⟩ := hx
  have HF := Lib.hid (fun W => isName_any x.f hx1 W)
  have HT := Lib.hid (fun W => isName_any x.t hx2 W)
  have HB := Lib.hid (al w (.cells #[.string x.f, .string x.t, .int .i64 x.r, .int .i64 x.n, .int .i64 x.d] 100))
  have hw := may_ways x
  unfold numP at hw
  unfold sv
  generalize mayB x = m at hw ⊢
  generalize x.r = r at *
  generalize x.n = n at *
  generalize x.d = d at *
  generalize x.f = f at *
  generalize x.t = t at *
  have hbx := Box.made w [.string f, .string t, .int .i64 r, .int .i64 n, .int .i64 d] 100
  have HBX := Lib.hid hbx
  clear hbx
  rcases hw with ⟨e1, rfl⟩ | ⟨e1, e2, rfl⟩ | ⟨e1, e2, e3, rfl⟩ | ⟨e1, e2, e3, e4⟩
  · rw [e1] at HF
    clear e1 HT
    go_enter Try.func79, Try.ntmps79
    go_wp2_with (go_at_call 74; (with_reducible refine (HF.out _).mono ?_); rintro e w1 ⟨rfl, hz⟩; have HZ := Lib.hid (below_trans HB.out hz); clear hz)
    go_ret
    exact ⟨rfl, HZ.out⟩
  · rw [e1] at HF
    rw [e2] at HT
    clear e1 e2
    go_enter Try.func79, Try.ntmps79
    go_wp2_with fail
    (with_reducible refine (HF.out _).mono ?_)
    rintro e w1 ⟨rfl, hz⟩
    have HBY := HBX.out.below hz
    have s0 := HBY.1
    have k0 := (HBY.2 0 _ rfl).1
    have k1 := (HBY.2 1 _ rfl).1
    have HZ := Lib.hid (below_trans HB.out hz)
    clear hz HBY
    go_wp2_with fail
    (with_reducible refine (HT.out _).mono ?_)
    rintro e w2 ⟨rfl, hz⟩
    have HZ2 := Lib.hid (below_trans HZ.out hz)
    clear hz
    go_wp2_with fail
    go_ret
    exact ⟨rfl, HZ2.out⟩
  · rw [e1] at HF
    rw [e2] at HT
    have eb := bytes_yes e3
    clear e1 e2 e3
    go_enter Try.func79, Try.ntmps79
    go_wp2_with fail
    (with_reducible refine (HF.out _).mono ?_)
    rintro e w1 ⟨rfl, hz⟩
    have HBY := HBX.out.below hz
    have s0 := HBY.1
    have k0 := (HBY.2 0 _ rfl).1
    have k1 := (HBY.2 1 _ rfl).1
    have HZ := Lib.hid (below_trans HB.out hz)
    have HBX2 := Lib.hid HBY
    clear hz HBY
    go_wp2_with fail
    (with_reducible refine (HT.out _).mono ?_)
    rintro e w2 ⟨rfl, hz⟩
    have HBY := HBX2.out.below hz
    have s0' := HBY.1
    have k0' := (HBY.2 0 _ rfl).1
    have k1' := (HBY.2 1 _ rfl).1
    have HZ2 := Lib.hid (below_trans HZ.out hz)
    clear hz HBY
    go_wp2_with fail
    go_ret
    exact ⟨ret_bool (by simp), HZ2.out⟩
  · rw [e1] at HF
    rw [e2] at HT
    have eb := bytes_no e3
    have HE := Lib.hid e4
    clear e1 e2 e3 e4
    go_enter Try.func79, Try.ntmps79
    go_wp2_with fail
    (with_reducible refine (HF.out _).mono ?_)
    rintro e w1 ⟨rfl, hz⟩
    have HBY := HBX.out.below hz
    have s0 := HBY.1
    have k0 := (HBY.2 0 _ rfl).1
    have k1 := (HBY.2 1 _ rfl).1
    have HZ := Lib.hid (below_trans HB.out hz)
    have HBX2 := Lib.hid HBY
    clear hz HBY
    go_wp2_with fail
    (with_reducible refine (HT.out _).mono ?_)
    rintro e w2 ⟨rfl, hz⟩
    have HBY := HBX2.out.below hz
    have s0' := HBY.1
    have k0' := (HBY.2 0 _ rfl).1
    have k1' := (HBY.2 1 _ rfl).1
    have k2' := (HBY.2 2 _ rfl).1
    have k3' := (HBY.2 3 _ rfl).1
    have k4' := (HBY.2 4 _ rfl).1
    have HZ2 := Lib.hid (below_trans HZ.out hz)
    clear hz HBY
    by_cases hnum : 1 ≤ r ∧ r ≤ 9 ∧ 1 ≤ n ∧ n ≤ 100 ∧ 1 ≤ d ∧ d ≤ 100
    · obtain rfl := HE.out.1 hnum
      obtain ⟨a1, a2, a3, a4, a5, a6⟩ := hnum
      go_wp2_with fail
      go_ret
      exact ⟨rfl, HZ2.out⟩
    · obtain rfl := HE.out.2 hnum
      have HN := Lib.hid hnum
      clear hnum
      go_wp2_with fail
      all_goals first
        | (exfalso; have := HN.out; omega)
        | (go_ret; exact ⟨rfl, HZ2.out⟩)
        | (go_ret; exact ⟨ret_bool (by have := HN.out; simp; omega), HZ2.out⟩)
end Go.Proofs.Ytjmmijobdcepmaa.Goods
