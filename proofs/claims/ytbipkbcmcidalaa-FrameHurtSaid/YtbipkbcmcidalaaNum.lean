/-
  Contracts of appendNumber, Number (package pack) and of the reference's Number: the bytes that are written are the digits of the folded number.
-/
import Derived.Test.YtbipkbcmcidalaaSmall
import Derived.Test.YtbipkbcmcidalaaDigs
import Derived.OwnWalk
import Derived.WalkSpells
namespace Go.Proofs.Ytbipkbcmcidalaa
open Go.ChangeShapes Go.WideShapes Go.ChangeAt Go.RowKit Go.Lib

theorem Try.info5 : (Try.prog.info? 5).map (fun i => (i.zero, i.size, i.bytes)) = some (some (.int .u8 0), 1, 1) := by kernel_rfl

/-- The row of bytes l is returned, in blocks from B on; below B all is as it was. -/
def Bytes (B : Nat) (l : List UInt8) (w : World) (e : Ending) (w' : World) : Prop :=
  ∃ v, e = .returned v ∧ w'.ownsRow B 5 1 v l.length (bcells l) ∧ Below B w w'

theorem lowDig (k : Nat) : ((UInt8.ofNat k).toNat : Int) = ((k % 256 : Nat) : Int) := by simp

set_option maxHeartbeats 1600000 in
set_option maxRecDepth 1000000 in
theorem appendNumber_any (B : Nat) (v : Value) (l : List UInt8) (n : Int) (w : World) (h1 : -1152921504606846976 ≤ n) (h2 : n ≤ 1152921504606846976)
    (hown0 : w.ownsRow B 5 1 v l.length (bcells l)) (hB : B ≤ w.heap.size) (hl : l.length ≤ 100000000) :
    Calls Try.prog 26 #[v, .int .i64 n] w (Bytes B (l ++ digs (fold n)) w) := by
  obtain ⟨i0, hi, hz0, hz1, hz2⟩ := info_parts Try.info5
  have hf := fold_le h1 h2
  have h9 := digs_len9 _ hf
  have HO := Lib.hid hown0
  clear hown0
  generalize hg : fold n = u at hf h9
  have HG := Lib.hid hg
  clear hg
  go_enter Try.func26, Try.ntmps26
  go_wp2_with (go_at_call 32; refine (fold_any _ _ h1 h2).mono ?_; rintro e w' ⟨rfl, rfl⟩; rw [HG.out])
  go_loopw [0, 5] (fun v' x wr => ∃ (k : Nat) (p : List UInt8), k ≤ 2305843009213693952 ∧ x = .int .u64 k ∧ p ++ digs k = l ++ digs u ∧ wr.ownsRow B 5 1 v' p.length (bcells p) ∧ Below B w wr)
    (fun _ x _ => (intOf x).toNat)
  case atStart => exact ⟨u, l, hf, rfl, rfl, HO.out, Below.refl _ _⟩
  case round =>
    obtain ⟨k, p, hk, rfl, hp, hown, hnx⟩ := hrel
    have hpl : p.length ≤ l.length + 9 := by
      have := congrArg List.length hp
      simp only [List.length_append] at this
      have := digs_len_pos k
      omega
    have HP := Lib.hid hp
    clear hp
    have hsz := hnx.size
    by_cases hlt : k < 128
    · have hd := digs_lt hlt
      have HD := Lib.hid hd
      clear hd
      go_wp2_with (at_builtin; refine wpList_append_own _ rfl _ _ 39 rfl B 5 i0 (.int .u8 0) 1 1 Try.underlying39 hi hz0 hz1 hz2 rfl (by decide) _ _ _ rfl (hown.alloc _) ⟨wr.heap.size, 0, none⟩ 1 1 [.int .u8 (k : Int)] rfl rfl ?c1 ?c2 ?c3 ?c4 ?c5 ?_)
      case c1 =>
        intro j y hj
        match j, hj with
        | 0, hj => simp at hj; subst hj; simp [Addr.add]
      case c2 => intro y hy; simp at hy; subst hy; rfl
      case c3 => unfold maxLen; omega
      case c4 => omega
      case c5 => simp; omega
      intro v' w1 hown' hgrow _
      have R := own_snoc (UInt8.ofNat k) (by simp; omega) (by omega) hown hnx hown' hgrow
      clear hown' hgrow hown
      go_wp2
      go_ret
      rw [← HP.out, HD.out]
      exact ⟨v', rfl, R.1, R.2⟩
    · have hd := digs_ge hlt
      have HD := Lib.hid hd
      clear hd
      go_wp2_with (at_builtin; refine wpList_append_own _ rfl _ _ 39 rfl B 5 i0 (.int .u8 0) 1 1 Try.underlying39 hi hz0 hz1 hz2 rfl (by decide) _ _ _ rfl (hown.alloc _) ⟨wr.heap.size, 0, none⟩ 1 1 [.int .u8 ((k : Int) % 128 + 128)] rfl rfl ?d1 ?d2 ?d3 ?d4 ?d5 ?_)
      case d1 =>
        intro j y hj
        match j, hj with
        | 0, hj => simp at hj; subst hj; simp [Addr.add]
      case d2 => intro y hy; simp at hy; subst hy; rfl
      case d3 => unfold maxLen; omega
      case d4 => omega
      case d5 => simp; omega
      intro v' w1 hown' hgrow _
      have R := own_snoc (UInt8.ofNat (k % 128 + 128)) (by simp; omega) (by omega) hown hnx hown' hgrow
      clear hown' hgrow hown
      go_wp2
      go_roundw
      case rel => exact ⟨k / 128, p ++ [UInt8.ofNat (k % 128 + 128)], by omega, by go_num, by rw [List.append_assoc, ← HP.out, HD.out]; rfl, R.1, R.2⟩
      case measure => simp [intOf]; omega

/-- A text and an error are returned; below B all is as it was. -/
def TextI (s : ByteArray) (b : Int) (w : World) (e : Ending) (w' : World) : Prop := e = .returned (.tuple #[.string s, .int .i64 b]) ∧ Below w.heap.size w w'
def Text (s : ByteArray) (w : World) (e : Ending) (w' : World) : Prop := e = .returned (.string s) ∧ Below w.heap.size w w'

theorem digs_ne (u : Nat) : digs u ≠ [] := by
  have := digs_len_pos u
  intro h; rw [h] at this; simp at this

set_option maxHeartbeats 400000 in
theorem Number_yes (n : Int) (w : World) (h : mayB n = true) : Calls Try.prog 16 #[.int .i64 n] w (TextI ⟨(digs (fold n)).toArray⟩ 0 w) := by
  have HN := Lib.hid h
  obtain ⟨h1, h2⟩ := mayB_t.1 h
  clear h
  go_enter Try.func16, Try.ntmps16
  go_wp2_with (first
    | (go_at_call 25; refine (mayBe_any _ _).mono ?_; rintro e w' ⟨rfl, rfl⟩; rw [HN.out])
    | (go_at_call 26; refine (appendNumber_any w.heap.size _ [] _ _ h1 h2 (World.ownsRow_nil _ _ _ _) (Nat.le_refl _) (by simp)).mono ?_))
  rintro e w' ⟨v, rfl, hown, hb⟩
  have hs := own_string (dst := 9) Try.underlying39 Try.underlying5 Try.underlying9 hown (digs_ne _)
  go_wp2
  go_ret2
  exact ⟨rfl, hb⟩
theorem Number_no (n : Int) (w : World) (h : mayB n = false) : Calls Try.prog 16 #[.int .i64 n] w (TextI ⟨#[]⟩ 1 w) := by
  have HN := Lib.hid h
  clear h
  go_enter Try.func16, Try.ntmps16
  go_wp2_with (go_at_call 25; refine (mayBe_any _ _).mono ?_; rintro e w' ⟨rfl, rfl⟩; rw [HN.out])
  go_ret2
  exact ⟨rfl, Below.refl _ _⟩

theorem Number_64 (w : World) : Calls Try.prog 16 #[.int .i64 64] w (TextI ⟨#[128, 1]⟩ 0 w) := by
  have h := Number_yes 64 w (by decide)
  rwa [show fold 64 = 128 from rfl, digs_ge (by omega), digs_lt (by decide)] at h
theorem Number_m1 (w : World) : Calls Try.prog 16 #[.int .i64 (-1)] w (TextI ⟨#[1]⟩ 0 w) := by
  have h := Number_yes (-1) w (by decide)
  rwa [show fold (-1) = 1 from rfl, digs_lt (by decide)] at h

def BoolB (b : Bool) (w : World) (e : Ending) (w' : World) : Prop := e = .returned (.bool b) ∧ Below w.heap.size w w'
theorem below_trans {w w1 w2 : World} (h : Below w.heap.size w w1) (k : Below w1.heap.size w1 w2) : Below w.heap.size w w2 := h.trans (k.mono h.size)

end Go.Proofs.Ytbipkbcmcidalaa
