/-
  Proved: for any acts the law StockKeeps returns true: whatever comes in, is held, released, shipped and lost, stock stays such as may be, all that came in is what is free, held, shipped and lost; what is refused changes nothing; what came in is told by what did. No condition.
-/
import Derived.Test.YtihfdeihpdkjcaaRows
import Derived.Test.YtihfdeihpdkjcaaKAct
import Derived.Test.YtihfdeihpdkjcaaKMap
import Derived.Test.YtihfdeihpdkjcaaKKeepM
import Derived.Deep.CutBlock
namespace Go.Proofs.Ytihfdeihpdkjcaa.stockKeeps
open Go.ChangeShapes Go.WideShapes Go.ChangeAt Go.RowKit Go.Lib Go.Proofs.Ytihfdeihpdkjcaa.Goods Go.Proofs.Ytihfdeihpdkjcaa.Goods.Stk
open Go.ChangeMaps (open_string shut_string)
set_option linter.unusedVariables false

theorem own : ownKnob Try.prog.godebug = none := by kernel_rfl
theorem laidOut : laidOutB Try.prog = true := by kernel_rfl

/-- At the head of the loop: the stock, and what the three maps have of it. -/
def Head (w : World) (B : Nat) (v : Value) (k : Nat) (wr : World) : Prop := ∃ (l : List Rw) (a : Option Addr) (c : Nat), v = .slice a l.length c ∧ SRow wr v l ∧ rightS l = true ∧ MapZ wr B k (numL 1 l) (fun t => hasR t l) l.length ∧
  (∃ h n, MapZ wr (B + 1) k (numL 5 l) h n) ∧ (∃ h n, MapZ wr (B + 2) k (numL 4 l) h n) ∧ Below w.heap.size w wr
theorem Head.mono {w : World} {B k k' : Nat} {v : Value} {wr wr' : World} (h : Head w B v k wr) (hk : k ≤ k') (hb : Below wr.heap.size wr wr') : Head w B v k' wr' := by
  obtain ⟨l, a, c, e, hr, hl, h1, ⟨h', n', h2⟩, ⟨h'', n'', h3⟩, hbw⟩ := h
  exact ⟨l, a, c, e, hr.below hb, hl, (h1.below hb).mono hk, ⟨h', n', (h2.below hb).mono hk⟩, ⟨h'', n'', (h3.below hb).mono hk⟩, below_trans hbw hb⟩
theorem three (w : World) (hw : Below w.heap.size w w) : Head w w.heap.size (.slice none 0 0) 0 (((w.alloc (.map #[] 0)).alloc (.map #[] 0)).alloc (.map #[] 0)) := by
  have h1 := MapZ.made w
  have h2 := MapZ.made (w.alloc (.map #[] 0))
  have h3 := MapZ.made ((w.alloc (.map #[] 0)).alloc (.map #[] 0))
  have a1 := al w (.map #[] 0)
  have a2 := al (w.alloc (.map #[] 0)) (.map #[] 0)
  have a3 := al ((w.alloc (.map #[] 0)).alloc (.map #[] 0)) (.map #[] 0)
  simp only [World.size_alloc] at h2 h3
  refine ⟨[], none, 0, rfl, .nil _, rightS_t.2 ⟨by simp, by simp, by simp, by simp⟩, (h1.below a2).below a3, ⟨_, _, h2.below a3⟩, ⟨_, _, h3⟩, below_trans a1 (below_trans a2 a3)⟩
theorem kind_mod (k : Int) : ∃ m : Nat, m < 5 ∧ Int.tmod (Int.tmod k 5 + 5) 5 = m ∧ -5 < Int.tmod k 5 ∧ Int.tmod k 5 < 5 := by
  have h1 := Int.tmod_lt_of_pos k (show (0 : Int) < 5 by omega)
  have h2 := Int.lt_tmod_of_pos k (show (0 : Int) < 5 by omega)
  have h3 := Int.tmod_lt_of_pos (Int.tmod k 5 + 5) (show (0 : Int) < 5 by omega)
  have h4 := Int.tmod_nonneg 5 (show 0 ≤ Int.tmod k 5 + 5 by omega)
  exact ⟨(Int.tmod (Int.tmod k 5 + 5) 5).toNat, by omega, by omega, by omega, by omega⟩

theorem right_brief' {l : List Rw} (h : rightS l = true) : Brief l := ⟨by have := (right_brief h).1; omega, fun x hx => by have := (right_brief h).2 x hx; omega⟩
theorem moveO_no {q : Nat} {l : List Rw} {k : ByteArray} {n : Int} (h : moveE q l k n ≠ 0) : moveO q l k n = [] := by unfold moveO; rw [if_neg h]
theorem recvO_no {l : List Rw} {k : ByteArray} {n : Int} (h : recvE l k n ≠ 0) : recvO l k n = [] := by unfold recvO; rw [if_neg h]
/-- The round's end: what is refused changes nothing. -/
theorem Head.same {w wr wx : World} {k : Nat} {l : List Rw} {va : Option Addr} {vc : Nat} {hL hG : ByteArray → Bool} {nL nG : Nat} (hr : SRow wr (.slice va l.length vc) l) (hri : rightS l = true) (hC : MapZ wr w.heap.size k (numL 1 l) (fun t => hasR t l) l.length) (hL1 : MapZ wr (w.heap.size + 1) k (numL 5 l) hL nL) (hG1 : MapZ wr (w.heap.size + 2) k (numL 4 l) hG nG) (hb : Below w.heap.size w wr) (hx : Below wr.heap.size wr wx) : Head w w.heap.size (.slice va l.length vc) (k + 1) wx :=
  Head.mono ⟨l, va, vc, rfl, hr, hri, hC, ⟨_, _, hL1⟩, ⟨_, _, hG1⟩, hb⟩ (Nat.le_succ k) hx

theorem Head.right {w wr : World} {B k : Nat} {v : Value} (h : Head w B v k wr) : Calls Try.prog 11 #[v] wr (BoolB true wr) := by
  obtain ⟨l, a, c, e, hr, hl, _⟩ := h
  have := RightS_any hr (right_brief' hl)
  rwa [hl] at this
/-- Behind the calls: the stock has come in, and is told in the first map. -/
theorem after_recv {w wr w6 : World} {k : Nat} {l : List Rw} {t : ByteArray} {n : Int} {va va6 : Option Addr} {vc n6 vc6 : Nat} {hL' hG' : ByteArray → Bool} {nL nG : Nat} (hz : recvE l t n = 0) (hr6 : SRow w6 (.slice va6 n6 vc6) (recvO l t n))
    (hC : MapZ wr w.heap.size k (numL 1 l) (fun t => hasR t l) l.length) (hL : MapZ wr (w.heap.size + 1) k (numL 5 l) hL' nL) (hG : MapZ wr (w.heap.size + 2) k (numL 4 l) hG' nG) (hb : Below w.heap.size w wr) (hx : Below wr.heap.size wr w6) (hk : k < 30) (ht : t.size ≤ 18) :
    ∃ (c : Int) (W7 : World), (Instr.lookup 42 (.map (some w.heap.size)) (.string t) false).run Try.prog w6 = .ok (.int .i64 c) w6 ∧ (Instr.mapUpdate 42 (.map (some w.heap.size)) (.string t) (.int .i64 (c + n))).run Try.prog w6 = .ok () W7 ∧
      (0 ≤ c ∧ c + n ≤ 1073741824 ∧ 1 ≤ n ∧ n ≤ 1073741824) ∧ Head w w.heap.size (.slice va6 n6 vc6) (k + 1) W7 := by
  obtain ⟨hu, c0, c1, hri, h1, h4, h5, hh, hn⟩ := recv_keeps hz
  have hC6 := hC.below hx
  have htm : t.size ≤ maxLen := by unfold maxLen; omega
  have u1 := hu.1
  have u2 := hu.2
  obtain ⟨W7, hput, hC7, hg⟩ := hC6.put (by omega) htm (v := numL 1 l t + n) (by omega)
  refine ⟨numL 1 l t, W7, hC6.look htm, hput, ⟨c0, c1, u1, u2⟩, recvO l t n, va6, vc6, ?_, hr6.turned hC6 hg, hri, ?_, ⟨hL', nL, ?_⟩, ⟨hG', nG, ?_⟩, (below_trans hb hx).grown hg (below_trans hb hx).size (fun j hj => by cases hj; exact Nat.le_refl _)⟩
  · rw [hr6.cap.1]
  · rw [h1, hh, hn]
    exact hC7
  · rw [h5]
    exact ((hL.below hx).mono (Nat.le_succ k)).kept hg (by simp)
  · rw [h4]
    exact ((hG.below hx).mono (Nat.le_succ k)).kept hg (by simp)
/-- Something is held or released: no map is turned. -/
theorem after_move {w wr w6 : World} {k q : Nat} {l : List Rw} {t : ByteArray} {n : Int} {va va6 : Option Addr} {vc n6 vc6 : Nat} {hL' hG' : ByteArray → Bool} {nL nG : Nat} (hq : q = 1 ∨ q = 2) (hz : moveE q l t n = 0) (hr6 : SRow w6 (.slice va6 n6 vc6) (moveO q l t n))
    (hC : MapZ wr w.heap.size k (numL 1 l) (fun t => hasR t l) l.length) (hL : MapZ wr (w.heap.size + 1) k (numL 5 l) hL' nL) (hG : MapZ wr (w.heap.size + 2) k (numL 4 l) hG' nG) (hb : Below w.heap.size w wr) (hx : Below wr.heap.size wr w6) :
    Head w w.heap.size (.slice va6 n6 vc6) (k + 1) w6 := by
  obtain ⟨hu, c4, c5, hri, h1, h4, h5, hh, hn⟩ := move_keeps (q := q) (by omega) hz
  refine ⟨moveO q l t n, va6, vc6, ?_, hr6, hri, ?_, ⟨hL', nL, ?_⟩, ⟨hG', nG, ?_⟩, below_trans hb hx⟩
  · rw [hr6.cap.1]
  · rw [h1, hh, hn]
    exact (hC.below hx).mono (Nat.le_succ k)
  · rw [h5]
    unfold losK
    rw [if_neg (by omega)]
    exact (hL.below hx).mono (Nat.le_succ k)
  · rw [h4]
    unfold gonK
    rw [if_neg (by omega)]
    exact (hG.below hx).mono (Nat.le_succ k)
theorem after_ship {w wr w6 : World} {k : Nat} {l : List Rw} {t : ByteArray} {n : Int} {va va6 : Option Addr} {vc n6 vc6 : Nat} {hL' hG' : ByteArray → Bool} {nL nG : Nat} (hz : moveE 3 l t n = 0) (hr6 : SRow w6 (.slice va6 n6 vc6) (moveO 3 l t n))
    (hC : MapZ wr w.heap.size k (numL 1 l) (fun t => hasR t l) l.length) (hL : MapZ wr (w.heap.size + 1) k (numL 5 l) hL' nL) (hG : MapZ wr (w.heap.size + 2) k (numL 4 l) hG' nG) (hb : Below w.heap.size w wr) (hx : Below wr.heap.size wr w6) (hk : k < 30) (ht : t.size ≤ 18) :
    ∃ (c : Int) (W7 : World), (Instr.lookup 42 (.map (some (w.heap.size + 1 + 1))) (.string t) false).run Try.prog w6 = .ok (.int .i64 c) w6 ∧ (Instr.mapUpdate 42 (.map (some (w.heap.size + 1 + 1))) (.string t) (.int .i64 (c + n))).run Try.prog w6 = .ok () W7 ∧
      (0 ≤ c ∧ c ≤ 1073741824 ∧ 1 ≤ n ∧ n ≤ 1073741824) ∧ Head w w.heap.size (.slice va6 n6 vc6) (k + 1) W7 := by
  obtain ⟨hu, c4, c5, hri, h1, h4, h5, hh, hn⟩ := move_keeps (q := 3) (by omega) hz
  have hG6 := hG.below hx
  have htm : t.size ≤ maxLen := by unfold maxLen; omega
  have u1 := hu.1
  have u2 := hu.2
  have d1 := c4.1
  have d2 := c4.2
  obtain ⟨W7, hput, hG7, hg⟩ := hG6.put (by omega) htm (v := numL 4 l t + n) (by omega)
  refine ⟨numL 4 l t, W7, hG6.look htm, hput, ⟨d1, d2, u1, u2⟩, moveO 3 l t n, va6, vc6, ?_, hr6.turned hG6 hg, hri, ?_, ⟨hL', nL, ?_⟩, ?_, (below_trans hb hx).grown hg (below_trans hb hx).size (fun j hj => by cases hj; omega)⟩
  · rw [hr6.cap.1]
  · rw [h1, hh, hn]
    exact ((hC.below hx).mono (Nat.le_succ k)).kept hg (by simp)
  · rw [h5]
    unfold losK
    rw [if_neg (by omega)]
    exact ((hL.below hx).mono (Nat.le_succ k)).kept hg (by simp)
  · rw [h4]
    unfold gonK
    rw [if_pos rfl]
    exact ⟨_, _, hG7⟩
theorem after_lose {w wr w6 : World} {k : Nat} {l : List Rw} {t : ByteArray} {n : Int} {va va6 : Option Addr} {vc n6 vc6 : Nat} {hL' hG' : ByteArray → Bool} {nL nG : Nat} (hz : moveE 4 l t n = 0) (hr6 : SRow w6 (.slice va6 n6 vc6) (moveO 4 l t n))
    (hC : MapZ wr w.heap.size k (numL 1 l) (fun t => hasR t l) l.length) (hL : MapZ wr (w.heap.size + 1) k (numL 5 l) hL' nL) (hG : MapZ wr (w.heap.size + 2) k (numL 4 l) hG' nG) (hb : Below w.heap.size w wr) (hx : Below wr.heap.size wr w6) (hk : k < 30) (ht : t.size ≤ 18) :
    ∃ (c : Int) (W7 : World), (Instr.lookup 42 (.map (some (w.heap.size + 1))) (.string t) false).run Try.prog w6 = .ok (.int .i64 c) w6 ∧ (Instr.mapUpdate 42 (.map (some (w.heap.size + 1))) (.string t) (.int .i64 (c + n))).run Try.prog w6 = .ok () W7 ∧
      (0 ≤ c ∧ c ≤ 1073741824 ∧ 1 ≤ n ∧ n ≤ 1073741824) ∧ Head w w.heap.size (.slice va6 n6 vc6) (k + 1) W7 := by
  obtain ⟨hu, c4, c5, hri, h1, h4, h5, hh, hn⟩ := move_keeps (q := 4) (by omega) hz
  have hL6 := hL.below hx
  have htm : t.size ≤ maxLen := by unfold maxLen; omega
  have u1 := hu.1
  have u2 := hu.2
  have d1 := c5.1
  have d2 := c5.2
  obtain ⟨W7, hput, hL7, hg⟩ := hL6.put (by omega) htm (v := numL 5 l t + n) (by omega)
  refine ⟨numL 5 l t, W7, hL6.look htm, hput, ⟨d1, d2, u1, u2⟩, moveO 4 l t n, va6, vc6, ?_, hr6.turned hL6 hg, hri, ?_, ?_, ⟨hG', nG, ?_⟩, (below_trans hb hx).grown hg (below_trans hb hx).size (fun j hj => by cases hj; omega)⟩
  · rw [hr6.cap.1]
  · rw [h1, hh, hn]
    exact ((hC.below hx).mono (Nat.le_succ k)).kept hg (by simp)
  · rw [h5]
    unfold losK
    rw [if_pos rfl]
    exact ⟨_, _, hL7⟩
  · rw [h4]
    unfold gonK
    rw [if_neg (by omega)]
    exact ((hG.below hx).mono (Nat.le_succ k)).kept hg (by simp)

set_option maxRecDepth 100000 in
set_option maxHeartbeats 8000000 in
theorem walk0 (v : Value) (w : World) (hA : ArgK w v) :
    Calls Try.prog 4 #[v] w (BoolB true w) := by
  obtain ⟨a, len, cap, rfl, hlc, hcap, hacts⟩ := hA
  have HACT := Lib.hid hacts
  have HST := Lib.hid (three w (Below.refl _ _))
  have hmm := @run_makeMap Try.prog
  clear hacts
  go_enter Try.func4, Try.ntmps4
  go_upto_block 0 with (fail)
  generalize (((w.alloc (.map #[] 0)).alloc (.map #[] 0)).alloc (.map #[] 0)) = W3 at HST ⊢
  clear hmm
  go_cut [3, 4, 5, 6] from 3 to 90 (fun v x y z wx => x = .map (some w.heap.size) ∧ y = .map (some (w.heap.size + 1)) ∧ z = .map (some (w.heap.size + 1 + 1)) ∧ ∃ k, k ≤ 30 ∧ Head w w.heap.size v k wx)
  case first =>
    go_wp2_with fail
    go_loopw [3, 7, 8, 9, 10, 11, 12, 13, 21] (fun v _ _ _ _ _ _ _ i wr => ∃ k : Nat, k ≤ len ∧ k ≤ 30 ∧ i = .int .i64 k ∧ Head w w.heap.size v k wr) (fun _ _ _ _ _ _ _ _ i _ => len - (intOf i).toNat)
    case atStart => exact ⟨0, Nat.zero_le _, Nat.zero_le _, rfl, HST.out⟩
    case round =>
      clear HST
      obtain ⟨k, hk, hk30, rfl, hst⟩ := hrel
      have HST := Lib.hid hst
      clear hst
      by_cases hlt : k < len
      case neg =>
        obtain rfl : k = len := by omega
        go_wp2_with fail
        go_meet
        exact ⟨rfl, rfl, rfl, k, hk30, HST.out⟩
      obtain ⟨gb, off, rfl, hgb, hact⟩ := HACT.out (by omega)
      obtain ⟨kd, s, n, hs, a0, a1, a2⟩ := hact k hlt
      obtain ⟨l, va, vc, rfl, hrow, hri, hC, ⟨hL', nL, hL⟩, ⟨hG', nG, hG⟩, hb⟩ := HST.out
      have e0 := (hb.cell (p := ⟨gb, off + k * 3, none⟩) hgb).trans a0
      have e1 := (hb.cell (p := ⟨gb, off + k * 3 + 1, none⟩) hgb).trans a1
      have e2 := (hb.cell (p := ⟨gb, off + k * 3 + 2, none⟩) hgb).trans a2
      have HB := Lib.hid hb
      have HC := Lib.hid hC
      have HL := Lib.hid hL
      have HG := Lib.hid hG
      have HR := Lib.hid hrow
      have HRI := Lib.hid hri
      have hkl : (k : Int) ≤ 9223372036854775807 := by omega
      clear hb a0 a1 a2 hact HACT hC hL hG hrow hri
      by_cases h30 : k = 30
      · subst h30
        have HA4 := Lib.hid (HST.out.mono (Nat.le_refl _) (al wr (.cells #[.int .i64 kd, .string s, .int .i64 n] 44)))
        go_wp2_with fail
        go_meet
        exact ⟨rfl, rfl, rfl, 30, Nat.le_refl _, HA4.out⟩
      have hk31 : k < 30 := by omega
      have hk32 : (k : Int) < 30 := by omega
      clear HST h30
      obtain ⟨q, hq, hqs, hq2⟩ : ∃ q : Nat, (if (18 : Int) < (s.size : Int) then (18 : Int) else (s.size : Int)) = q ∧ q ≤ s.size ∧ q ≤ 18 := ⟨min s.size 18, by split <;> omega, by omega, by omega⟩
      have i0 : (0 : Int) ≤ (q : Int) := by omega
      have i1 : (q : Int) ≤ (s.size : Int) := by omega
      obtain ⟨d, hd5, hd, hm1, hm2⟩ := kind_mod kd
      obtain ⟨m, hm⟩ : ∃ m, Int.tmod kd 5 = m := ⟨_, rfl⟩
      rw [hm] at hd hm1 hm2
      obtain ⟨t, ht, ht18⟩ : ∃ t, s.extract 0 q = t ∧ t.size ≤ 18 := ⟨_, rfl, by rw [ByteArray.size_extract]; omega⟩
      have HT := Lib.hid ht18
      clear ht18
      go_upto_region 7 with (fail)
      have HA4 := Lib.hid (Box.made wr [.int .i64 kd, .string s, .int .i64 n] 44)
      have HBE := Lib.hid (al wr (.cells #[.int .i64 kd, .string s, .int .i64 n] 44))
      generalize hW4 : wr.alloc (.cells #[.int .i64 kd, .string s, .int .i64 n] 44) = W4 at HA4 HBE ⊢
      generalize wr.heap.size = ba at HA4 ⊢
      clear hW4 e0 e1 e2
      go_cut [9, 10, 11] from 28 to 41 (fun x y z wx => x = .string t ∧ y = .int .i64 n ∧ z = .int .i64 d ∧ Below W4.heap.size W4 wx)
      case first =>
        have c0 := (HA4.out.2 0 _ rfl).1
        have c1 := (HA4.out.2 1 _ rfl).1
        have c2 := (HA4.out.2 2 _ rfl).1
        go_region
        go_wp2_with fail
        go_meet
        exact ⟨rfl, rfl, rfl, dr _⟩
      case rest =>
      obtain ⟨rfl, rfl, rfl, hz4⟩ := hcut
      have HZ := Lib.hid (below_trans HBE.out hz4)
      clear hz4 HBE HA4 hq hqs hq2 i0 i1 hd hm1 hm2 hm ht hs hlc hcap
      have hbr := right_brief' HRI.out
      have HDO := Lib.hid (fun W (hb : Below wr.heap.size wr W) => does_any (HR.out.below hb) hbr t n (d : Int))
      have HRC := Lib.hid (fun W (hb : Below wr.heap.size wr W) => Receive_any (HR.out.below hb) hbr t (by have := HT.out; omega) n)
      clear hbr
      have hdi : (d : Int) = 0 ∨ (d : Int) = 1 ∨ (d : Int) = 2 ∨ (d : Int) = 3 ∨ (d : Int) = 4 := by omega
      generalize (d : Int) = dI at *
      clear hd5
      rcases hdi with rfl | rfl | rfl | rfl | rfl
      · have HQ := Lib.hid HDO.out
        clear HDO
        generalize moveO (kq 0) l t n = m0 at HQ
        generalize moveE (kq 0) l t n = z0 at HQ
        by_cases hz0 : recvE l t n = 0
        · rw [hz0] at HRC
          go_wp2_with fail
          (with_reducible refine (HQ.out _ HZ.out).mono ?_)
          rintro e w5 ⟨v5, rfl, hr5, hz⟩
          have HZ5 := Lib.hid (below_trans HZ.out hz)
          obtain ⟨a5, n5, c5, rfl⟩ : ∃ a n c, v5 = .slice a n c := (by obtain ⟨a', c', e⟩ := hr5.slice; exact ⟨a', _, c', e⟩)
          clear hz hr5
          go_wp2_with fail
          (with_reducible refine (HRC.out _ HZ5.out).mono ?_)
          rintro e w6 ⟨v6, rfl, hr6, hz⟩
          have hz6 := below_trans HZ5.out hz
          obtain ⟨a6, n6, c6, rfl⟩ : ∃ a n c, v6 = .slice a n c := (by obtain ⟨a', c', e⟩ := hr6.slice; exact ⟨a', _, c', e⟩)
          obtain ⟨c, W7, hlook, hput, hcn, hH⟩ := after_recv (va := va) (vc := vc) hz0 hr6 HC.out HL.out HG.out HB.out hz6 hk31 HT.out
          obtain ⟨u0, u1, u2, u3⟩ := hcn
          have HH := Lib.hid hH
          clear hz0 hz hr6 hz6 hH HQ HC HL HG HR HB HRI HT HZ HZ5 HRC
          go_wp2_with fail
          (with_reducible refine HH.out.right.mono ?_)
          rintro e w8 ⟨rfl, hz8⟩
          have HE := Lib.hid (HH.out.mono (Nat.le_refl _) hz8)
          clear hz8 HH
          go_wp2_with fail
          go_roundw
          case rel => exact ⟨k + 1, by omega, by omega, by go_num, HE.out⟩
          case measure => simp [intOf]; omega
        · rw [recvO_no hz0] at HRC
          obtain ⟨z, hze⟩ : ∃ z, recvE l t n = z := ⟨_, rfl⟩
          rw [hze] at hz0 HRC
          have hzb : (z != 0) = true := by simpa using hz0
          have hzc : (z == 0) = false := by simpa using hz0
          go_wp2_with fail
          (with_reducible refine (HQ.out _ HZ.out).mono ?_)
          rintro e w5 ⟨v5, rfl, hr5, hz⟩
          have HZ5 := Lib.hid (below_trans HZ.out hz)
          obtain ⟨a5, n5, c5, rfl⟩ : ∃ a n c, v5 = .slice a n c := (by obtain ⟨a', c', e⟩ := hr5.slice; exact ⟨a', _, c', e⟩)
          clear hz hr5
          go_wp2_with fail
          (with_reducible refine (HRC.out _ HZ5.out).mono ?_)
          rintro e w6 ⟨v6, rfl, hr6, hz⟩
          obtain ⟨a6, c6, rfl⟩ := hr6.slice
          have HH := Lib.hid (Head.same HR.out HRI.out HC.out HL.out HG.out HB.out (below_trans HZ5.out hz))
          clear hz0 hz hr6 hze HQ HC HL HG HR HB HRI HT HZ HZ5 HRC
          go_wp2_with fail
          go_roundw
          case rel => exact ⟨k + 1, by omega, by omega, by go_num, HH.out⟩
          case measure => simp [intOf]; omega
      · have HQ := Lib.hid HDO.out
        rw [show kq 1 = 1 from rfl] at HQ
        clear HDO HRC
        by_cases hz0 : moveE 1 l t n = 0
        · rw [hz0] at HQ
          go_wp2_with fail
          (with_reducible refine (HQ.out _ HZ.out).mono ?_)
          rintro e w5 ⟨v5, rfl, hr5, hz⟩
          have hz5 := below_trans HZ.out hz
          obtain ⟨a5, n5, c5, rfl⟩ : ∃ a n c, v5 = .slice a n c := (by obtain ⟨a', c', e⟩ := hr5.slice; exact ⟨a', _, c', e⟩)
          have hH := after_move (va := va) (vc := vc) (.inl rfl) hz0 hr5 HC.out HL.out HG.out HB.out hz5
          have HH := Lib.hid hH
          clear hz0 hz hr5 hz5 hH HQ HC HL HG HR HB HRI HT HZ
          go_wp2_with fail
          (with_reducible refine HH.out.right.mono ?_)
          rintro e w8 ⟨rfl, hz8⟩
          have HE := Lib.hid (HH.out.mono (Nat.le_refl _) hz8)
          clear hz8 HH
          go_wp2_with fail
          go_roundw
          case rel => exact ⟨k + 1, by omega, by omega, by go_num, HE.out⟩
          case measure => simp [intOf]; omega
        · rw [moveO_no hz0] at HQ
          obtain ⟨z, hze⟩ : ∃ z, moveE 1 l t n = z := ⟨_, rfl⟩
          rw [hze] at hz0 HQ
          have hzb : (z != 0) = true := by simpa using hz0
          have hzc : (z == 0) = false := by simpa using hz0
          go_wp2_with fail
          (with_reducible refine (HQ.out _ HZ.out).mono ?_)
          rintro e w5 ⟨v5, rfl, hr5, hz⟩
          obtain ⟨a5, c5, rfl⟩ := hr5.slice
          have HH := Lib.hid (Head.same HR.out HRI.out HC.out HL.out HG.out HB.out (below_trans HZ.out hz))
          clear hz0 hz hr5 hze HQ HC HL HG HR HB HRI HT HZ
          go_wp2_with fail
          go_roundw
          case rel => exact ⟨k + 1, by omega, by omega, by go_num, HH.out⟩
          case measure => simp [intOf]; omega
      · have HQ := Lib.hid HDO.out
        rw [show kq 2 = 2 from rfl] at HQ
        clear HDO HRC
        by_cases hz0 : moveE 2 l t n = 0
        · rw [hz0] at HQ
          go_wp2_with fail
          (with_reducible refine (HQ.out _ HZ.out).mono ?_)
          rintro e w5 ⟨v5, rfl, hr5, hz⟩
          have hz5 := below_trans HZ.out hz
          obtain ⟨a5, n5, c5, rfl⟩ : ∃ a n c, v5 = .slice a n c := (by obtain ⟨a', c', e⟩ := hr5.slice; exact ⟨a', _, c', e⟩)
          have hH := after_move (va := va) (vc := vc) (.inr rfl) hz0 hr5 HC.out HL.out HG.out HB.out hz5
          have HH := Lib.hid hH
          clear hz0 hz hr5 hz5 hH HQ HC HL HG HR HB HRI HT HZ
          go_wp2_with fail
          (with_reducible refine HH.out.right.mono ?_)
          rintro e w8 ⟨rfl, hz8⟩
          have HE := Lib.hid (HH.out.mono (Nat.le_refl _) hz8)
          clear hz8 HH
          go_wp2_with fail
          go_roundw
          case rel => exact ⟨k + 1, by omega, by omega, by go_num, HE.out⟩
          case measure => simp [intOf]; omega
        · rw [moveO_no hz0] at HQ
          obtain ⟨z, hze⟩ : ∃ z, moveE 2 l t n = z := ⟨_, rfl⟩
          rw [hze] at hz0 HQ
          have hzb : (z != 0) = true := by simpa using hz0
          have hzc : (z == 0) = false := by simpa using hz0
          go_wp2_with fail
          (with_reducible refine (HQ.out _ HZ.out).mono ?_)
          rintro e w5 ⟨v5, rfl, hr5, hz⟩
          obtain ⟨a5, c5, rfl⟩ := hr5.slice
          have HH := Lib.hid (Head.same HR.out HRI.out HC.out HL.out HG.out HB.out (below_trans HZ.out hz))
          clear hz0 hz hr5 hze HQ HC HL HG HR HB HRI HT HZ
          go_wp2_with fail
          go_roundw
          case rel => exact ⟨k + 1, by omega, by omega, by go_num, HH.out⟩
          case measure => simp [intOf]; omega
      · have HQ := Lib.hid HDO.out
        rw [show kq 3 = 3 from rfl] at HQ
        clear HDO HRC
        by_cases hz0 : moveE 3 l t n = 0
        · rw [hz0] at HQ
          go_wp2_with fail
          (with_reducible refine (HQ.out _ HZ.out).mono ?_)
          rintro e w5 ⟨v5, rfl, hr5, hz⟩
          have hz5 := below_trans HZ.out hz
          obtain ⟨a5, n5, c5, rfl⟩ : ∃ a n c, v5 = .slice a n c := (by obtain ⟨a', c', e⟩ := hr5.slice; exact ⟨a', _, c', e⟩)
          obtain ⟨c, W7, hlook, hput, hcn, hH⟩ := after_ship (va := va) (vc := vc) hz0 hr5 HC.out HL.out HG.out HB.out hz5 hk31 HT.out
          obtain ⟨u0, u1, u2, u3⟩ := hcn
          have HH := Lib.hid hH
          clear hz0 hz hr5 hz5 hH HQ HC HL HG HR HB HRI HT HZ
          go_wp2_with fail
          (with_reducible refine HH.out.right.mono ?_)
          rintro e w8 ⟨rfl, hz8⟩
          have HE := Lib.hid (HH.out.mono (Nat.le_refl _) hz8)
          clear hz8 HH
          go_wp2_with fail
          go_roundw
          case rel => exact ⟨k + 1, by omega, by omega, by go_num, HE.out⟩
          case measure => simp [intOf]; omega
        · rw [moveO_no hz0] at HQ
          obtain ⟨z, hze⟩ : ∃ z, moveE 3 l t n = z := ⟨_, rfl⟩
          rw [hze] at hz0 HQ
          have hzb : (z != 0) = true := by simpa using hz0
          have hzc : (z == 0) = false := by simpa using hz0
          go_wp2_with fail
          (with_reducible refine (HQ.out _ HZ.out).mono ?_)
          rintro e w5 ⟨v5, rfl, hr5, hz⟩
          obtain ⟨a5, c5, rfl⟩ := hr5.slice
          have HH := Lib.hid (Head.same HR.out HRI.out HC.out HL.out HG.out HB.out (below_trans HZ.out hz))
          clear hz0 hz hr5 hze HQ HC HL HG HR HB HRI HT HZ
          go_wp2_with fail
          go_roundw
          case rel => exact ⟨k + 1, by omega, by omega, by go_num, HH.out⟩
          case measure => simp [intOf]; omega
      · have HQ := Lib.hid HDO.out
        rw [show kq 4 = 4 from rfl] at HQ
        clear HDO HRC
        by_cases hz0 : moveE 4 l t n = 0
        · rw [hz0] at HQ
          go_wp2_with fail
          (with_reducible refine (HQ.out _ HZ.out).mono ?_)
          rintro e w5 ⟨v5, rfl, hr5, hz⟩
          have hz5 := below_trans HZ.out hz
          obtain ⟨a5, n5, c5, rfl⟩ : ∃ a n c, v5 = .slice a n c := (by obtain ⟨a', c', e⟩ := hr5.slice; exact ⟨a', _, c', e⟩)
          obtain ⟨c, W7, hlook, hput, hcn, hH⟩ := after_lose (va := va) (vc := vc) hz0 hr5 HC.out HL.out HG.out HB.out hz5 hk31 HT.out
          obtain ⟨u0, u1, u2, u3⟩ := hcn
          have HH := Lib.hid hH
          clear hz0 hz hr5 hz5 hH HQ HC HL HG HR HB HRI HT HZ
          go_wp2_with fail
          (with_reducible refine HH.out.right.mono ?_)
          rintro e w8 ⟨rfl, hz8⟩
          have HE := Lib.hid (HH.out.mono (Nat.le_refl _) hz8)
          clear hz8 HH
          go_wp2_with fail
          go_roundw
          case rel => exact ⟨k + 1, by omega, by omega, by go_num, HE.out⟩
          case measure => simp [intOf]; omega
        · rw [moveO_no hz0] at HQ
          obtain ⟨z, hze⟩ : ∃ z, moveE 4 l t n = z := ⟨_, rfl⟩
          rw [hze] at hz0 HQ
          have hzb : (z != 0) = true := by simpa using hz0
          have hzc : (z == 0) = false := by simpa using hz0
          go_wp2_with fail
          (with_reducible refine (HQ.out _ HZ.out).mono ?_)
          rintro e w5 ⟨v5, rfl, hr5, hz⟩
          obtain ⟨a5, c5, rfl⟩ := hr5.slice
          have HH := Lib.hid (Head.same HR.out HRI.out HC.out HL.out HG.out HB.out (below_trans HZ.out hz))
          clear hz0 hz hr5 hze HQ HC HL HG HR HB HRI HT HZ
          go_wp2_with fail
          go_roundw
          case rel => exact ⟨k + 1, by omega, by omega, by go_num, HH.out⟩
          case measure => simp [intOf]; omega
  case rest =>
  obtain ⟨rfl, rfl, rfl, k, hk, hst⟩ := hcut
  obtain ⟨l, va, vc, rfl, hrow, hri, hC, ⟨hL', nL, hL⟩, ⟨hG', nG, hG⟩, hb⟩ := hst
  have HB := Lib.hid hb
  have HC := Lib.hid hC
  have HL := Lib.hid hL
  have HG := Lib.hid hG
  have HR := Lib.hid hrow
  have HRI := Lib.hid hri
  clear hb hC hL hG hrow hri HST HACT hlc hcap
  go_wp2_with fail
  go_loopw [15, 93] (fun _ i wr => ∃ q : Nat, q ≤ l.length ∧ i = .int .i64 q ∧ Below wc.heap.size wc wr) (fun _ i _ => l.length - (intOf i).toNat)
  case atStart => exact ⟨0, Nat.zero_le _, rfl, Below.refl _ _⟩
  case round =>
    obtain ⟨q, hq, rfl, hbw⟩ := hrel
    have HBW := Lib.hid hbw
    clear hbw
    by_cases hlt : q < l.length
    · obtain ⟨b, off, rfl, hlc, hcap, hbl, hsix⟩ := (HR.out.below HBW.out).at hlt
      have hmem := List.getElem_mem hlt
      generalize hy : l[q] = y at hmem hsix
      obtain ⟨k0, k1, k2, k3, k4, k5⟩ := hsix
      have hna := name_size ((rightS_t.1 HRI.out).2.1 y hmem)
      have htm : y.s.size ≤ maxLen := by unfold maxLen; omega
      obtain ⟨⟨b1, b2⟩, ⟨b3, b4⟩, ⟨b5, b6⟩, ⟨b7, b8⟩, ⟨b9, b10⟩, hsum⟩ := (rightS_t.1 HRI.out).2.2.2 y hmem
      obtain ⟨s1, q1⟩ : ∃ s1, y.f + y.h = s1 := ⟨_, rfl⟩
      obtain ⟨s2, q2⟩ : ∃ s2, y.n - y.p = s2 := ⟨_, rfl⟩
      have q3 : s2 - y.t = s1 := by omega
      have r1 : 0 ≤ s1 ∧ s1 ≤ 2147483648 := by omega
      have r2 : 0 ≤ s2 ∧ s2 ≤ 1073741824 := by omega
      clear hsum
      have hba := al wr (.cells #[.string y.s, .int .i64 y.n, .int .i64 y.f, .int .i64 y.h, .int .i64 y.p, .int .i64 y.t] 25)
      have hbx := below_trans HBW.out hba
      have l1 := (HC.out.below hbx).look htm
      have l4 := (HG.out.below hbx).look htm
      have l5 := (HL.out.below hbx).look htm
      rw [numL_mem HRI.out hmem] at l1 l4 l5
      have HX := Lib.hid (Box.made wr [.string y.s, .int .i64 y.n, .int .i64 y.f, .int .i64 y.h, .int .i64 y.p, .int .i64 y.t] 25)
      have HBX := Lib.hid hbx
      simp only [fld] at l1 l4 l5
      have hlc2 : (q : Int) ≤ 9223372036854775806 := by omega
      clear hba hbx hna htm hmem hy HB HC HL HG HRI
      go_upto_region 28 with (fail)
      generalize hW : wr.alloc (.cells #[.string y.s, .int .i64 y.n, .int .i64 y.f, .int .i64 y.h, .int .i64 y.p, .int .i64 y.t] 25) = W at HX HBX l1 l4 l5 ⊢
      generalize wr.heap.size = bx at HX ⊢
      clear hW k0 k1 k2 k3 k4 k5
      have k0 := (HX.out.2 0 _ rfl).1
      have k1 := (HX.out.2 1 _ rfl).1
      have k2 := (HX.out.2 2 _ rfl).1
      have k3 := (HX.out.2 3 _ rfl).1
      have k4 := (HX.out.2 4 _ rfl).1
      have k5 := (HX.out.2 5 _ rfl).1
      go_wp2_with fail
      go_roundw
      case rel => exact ⟨q + 1, by omega, by go_num, HBX.out⟩
      case measure => simp [intOf]; omega
    · obtain rfl : q = l.length := by omega
      have HE := Lib.hid (below_trans HB.out HBW.out)
      go_wp2_with fail
      (with_reducible refine (alive_any _).mono ?_)
      rintro e w9 ⟨rfl, hz⟩
      have HE9 := Lib.hid (below_trans HE.out hz)
      have hlen := ((HC.out.below HBW.out).below hz).len 3
      clear hz
      go_wp2_with fail
      go_ret
      exact ⟨rfl, HE9.out⟩
set_option maxRecDepth 100000 in
set_option maxHeartbeats 4000000 in
theorem lifted (os : Os) (started : os.Started) (H : Type) (enc : TypeId × Value → H) :
    ReturnsInHanded {} Try.checked os 4 .any (Rows.stockKeepsSpec.pre6 enc Try.prog Try.f4 Rows.stockKeepsRow.domain false) (Rows.stockKeepsSpec.post enc Try.prog Try.f4 false true false false) := by
  refine returnsInHanded_of_change (C := Try.checked) own started (by kernel_rfl) Try.func4
    (ChangeSpec.witness6 (enc := enc) (C := Try.checked) false ⟨#[], #[.slice none 0 0], []⟩ 8 (by kernel_rfl) (by kernel_rfl) (by kernel_rfl) (by kernel_rfl)) ?_
  intro W base args ds gs before hval0 hW hcnd _
  have hval : ∀ (j : Nat) t v, Try.f4.params[j]? = some t → args[j]? = some v → Value.okWide Try.prog W .any base t v := hval0
  have hW' := hW
  obtain ⟨p, q, hA0, hV, rfl, hfz, hnd⟩ := hW
  have hA : DataW.TrodAll enc Try.prog W 0 (fun _ => true) true Try.f4.params.toList args.toList ds p := hA0
  rw [Try.params4] at hA hval
  obtain ⟨v0, vs0, d0, ds0, p0, q0, hargs, rfl, rfl, h0, r0⟩ := trodAll_cons hA
  obtain ⟨rfl, rfl, rfl⟩ := trodAll_nil r0
  obtain rfl : args = #[v0] := by cases args; simp_all
  obtain ⟨rfl, rfl⟩ := trodVars_none hV
  have k0 := h0
  have lt0 : ∀ x ∈ p0, x.block < W.heap.size := by obtain ⟨m, hm⟩ := k0; exact DataW.trod_lt m _ _ _ hm
  obtain ⟨fuel0, hf0⟩ := h0
  obtain ⟨aa0, ll0, cc0, rfl⟩ := okWide_slice Try.underlying41 (hval 0 41 v0 rfl rfl)
  have w0 := argS_of (v := .slice aa0 ll0 cc0) hf0
  clear hA0 hval0
  refine (walk0 (.slice aa0 ll0 cc0) W w0).mono fun e W' ⟨he, bel⟩ => ?_
  subst he
  exact ⟨_, rfl, _, _, _, [], _, [], hW', trodAll_mk1 (shut_bool Try.underlying4 _), (trodAll_cons_mk (Below.trod laidOut (by kernel_rfl) (of_decide_eq_true (by kernel_rfl)) k0 bel lt0) trodAll_mk0), rfl, bel.frame _, fun h => by cases h⟩

theorem over : Rows.stockKeepsRow.holds Try.pinned (OpenSpec.ofChange Rows.stockKeepsSpec) :=
  OpenClaim.holds_of_wide 4 Try.f4 rfl rfl rfl rfl rfl rfl rfl ⟨rfl, rfl, rfl, rfl, rfl⟩ rfl rfl rfl rfl rfl (by kernel_rfl) Try.func4 (by kernel_rfl)
    (of_decide_eq_true (by kernel_rfl)) (by unfold Func.isWrapper; first | (rw [if_pos (by decide +kernel)]; kernel_rfl) | (rw [if_neg (by decide +kernel)]; exact ⟨rfl, rfl⟩))
    (fun os started H enc _ => lifted os started H enc)

theorem proved : Rows.StockKeepsSaid := over
#print axioms proved

end Go.Proofs.Ytihfdeihpdkjcaa.stockKeeps
