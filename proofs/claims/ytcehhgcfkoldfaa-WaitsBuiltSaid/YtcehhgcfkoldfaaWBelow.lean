/-
  Contracts of package waits: how lines stand (below), and which line may be by itself (lineMayBe, by goods.Right and queue.Right).
-/
import Derived.Test.YtcehhgcfkoldfaaWRow
import Derived.Test.YtcehhgcfkoldfaaGRight
import Derived.Test.YtcehhgcfkoldfaaQStand
namespace Go.Proofs.Ytcehhgcfkoldfaa.Waits
open Go.ChangeShapes Go.WideShapes Go.ChangeAt Go.RowKit Go.Shelf
open Go.Proofs.Ytcehhgcfkoldfaa.Goods
open Go.Proofs.Ytcehhgcfkoldfaa.Queue (Wt ltB wv QRow)

theorem ltL_eq {a b : Ln} (e : a.k = b.k) : ltL a b = ltB a.w b.w := by
  unfold ltL
  rw [e, ltT_self, decide_eq_true rfl, Bool.false_or, Bool.true_and]
theorem ltL_neq {a b : Ln} (e : a.k ≠ b.k) : ltL a b = ltT a.k b.k := by
  unfold ltL
  rw [decide_eq_false e, Bool.false_and, Bool.or_false]
def lcs (x : Ln) : List Value := [.string x.k, .int .i64 x.w.c, .int .i64 x.w.s, .int .i64 x.w.o]
theorem box4 {b : Nat} {x : Ln} {w : World} (h : Box b (lcs x) w) : w.cell? ⟨b, 0, none⟩ = some (.string x.k) ∧ w.cell? ⟨b, 1, none⟩ = some (.int .i64 x.w.c) ∧ w.cell? ⟨b, 2, none⟩ = some (.int .i64 x.w.s) ∧ w.cell? ⟨b, 3, none⟩ = some (.int .i64 x.w.o) := ⟨(h.2 0 _ rfl).1, (h.2 1 _ rfl).1, (h.2 2 _ rfl).1, (h.2 3 _ rfl).1⟩
theorem two_al (w : World) (o p : Obj) : Below w.heap.size w ((w.alloc o).alloc p) := below_trans (al w o) (al _ p)

set_option maxRecDepth 100000 in
set_option maxHeartbeats 1000000 in
theorem below_any (a b : Ln) (w : World) : Calls Try.prog 47 #[lv a, lv b] w (BoolB (ltL a b) w) := by
  have HB := Lib.hid (two_al w (.cells #[.string a.k, .int .i64 a.w.c, .int .i64 a.w.s, .int .i64 a.w.o] 26) (.cells #[.string b.k, .int .i64 b.w.c, .int .i64 b.w.s, .int .i64 b.w.o] 26))
  have HC := Lib.hid (fun W => Queue.Less_any a.w b.w W)
  by_cases e : a.k = b.k
  · rw [ltL_eq e]
    have k1 := bytes_yes e
    unfold lv wv at *
    generalize ltB a.w b.w = m at *
    clear e
    go_enter Try.func47, Try.ntmps47
    go_wp2_with (go_at_call 28; (with_reducible refine (HC.out _).mono ?_); rintro e w' ⟨rfl, hz⟩; have HZ := Lib.hid (below_trans HB.out hz); clear hz)
    go_ret
    exact ⟨rfl, HZ.out⟩
  · rw [ltL_neq e]
    have k1 := bytes_no e
    obtain ⟨m, hm⟩ : ∃ m, ltT a.k b.k = m := ⟨_, rfl⟩
    rw [hm]
    have k2 : Op.bytesLess a.k.toList b.k.toList = m := hm
    unfold lv wv at *
    clear hm e HC
    go_enter Try.func47, Try.ntmps47
    go_wp2
    go_ret
    exact ⟨rfl, HB.out⟩

theorem subsB_none (s : List ByteArray) : subsB [] s = true := by unfold subsB Goods.twiceB risesB; simp
theorem rightB_one (k : ByteArray) : Goods.rightB [k] [] = nameB k := by
  unfold Goods.rightB
  rw [subsB_none, Bool.and_true]
  unfold skusB risesB
  simp
theorem TRow.one (w : World) (s : ByteArray) : TRow (w.alloc (.cells #[.string s] 9)) (.slice (some ⟨w.heap.size, 0, none⟩) 1 1) [s] := by
  refine ⟨_, 1, rfl, by simp, by omega, fun _ => ⟨_, 0, rfl, by simp, fun j hj => ?_⟩⟩
  obtain rfl : j = 0 := by simpa using hj
  simp
theorem QRow.one (w : World) (x : Wt) : QRow (w.alloc (.cells #[.int .i64 x.c, .int .i64 x.s, .int .i64 x.o] 24)) (.slice (some ⟨w.heap.size, 0, none⟩) 1 1) [x] := by
  refine ⟨_, 1, rfl, by simp, by omega, fun _ => ⟨_, 0, rfl, by simp, fun j hj => ?_⟩⟩
  obtain rfl : j = 0 := by simpa using hj
  refine ⟨?_, ?_, ?_⟩ <;> simp
theorem queue_one (x : Wt) : Queue.rightB [x] = mayW x := by
  have h1 : Queue.hpB [x] = true := Queue.hpB_t.2 (fun k h1 h2 => by simp at h2; omega)
  unfold Queue.rightB
  rw [h1, Bool.and_true]
  unfold Queue.allB
  rw [List.all_cons, List.all_nil, Bool.and_true]
  rfl

set_option maxRecDepth 100000 in
set_option maxHeartbeats 1000000 in
theorem lineMayBe_any (x : Ln) (hx : x.k.size ≤ 1000000) (w : World) : Calls Try.prog 31 #[lv x] w (BoolB (mayL x) w) := by
  have hb := al w (.cells #[.string x.k, .int .i64 x.w.c, .int .i64 x.w.s, .int .i64 x.w.o] 26)
  have hbox := Box.made w (lcs x) 26
  obtain ⟨W1, hW1⟩ : ∃ W, w.alloc (.cells #[.string x.k, .int .i64 x.w.c, .int .i64 x.w.s, .int .i64 x.w.o] 26) = W := ⟨_, rfl⟩
  have hs1 : W1.heap.size = w.heap.size + 1 := by rw [← hW1]; simp
  have HB1 : Hid (Below w.heap.size w W1) := Lib.hid (hW1 ▸ hb)
  have HX1 : Hid (Box w.heap.size (lcs x) W1) := Lib.hid (hW1 ▸ hbox)
  have hr := rightB_one x.k
  have HG := Lib.hid (hr ▸ Goods.Right_any (v := .slice (some ⟨W1.heap.size, 0, none⟩) 1 1) (u := .slice none 0 0) (s := [x.k]) (l := []) (w := W1.alloc (.cells #[.string x.k] 9)) ⟨TRow.one W1 x.k, GRow.nil _⟩ ⟨by simp, by simp, by simpa using hx, by simp⟩)
  rw [hs1] at HG
  have HQ := Lib.hid (fun (W : World) => queue_one x.w ▸ Queue.Right_any (QRow.one W x.w) (by simp))
  have HB2 := Lib.hid (below_trans HB1.out (al W1 (.cells #[.string x.k] 9)))
  have HX2 := Lib.hid (HX1.out.below (al W1 (.cells #[.string x.k] 9)))
  unfold mayL
  generalize nameB x.k = m at *
  generalize mayW x.w = n at *
  unfold lv
  clear hb hbox hr hx
  go_enter Try.func31, Try.ntmps31
  go_upto_region 1 with (fail)
  obtain ⟨c0, c1, c2, c3⟩ := box4 HX1.out
  have hsz := HX1.out.1
  clear hW1
  cases m with
  | false =>
    go_wp2_with fail
    (with_reducible refine HG.out.mono ?_)
    rintro e w' ⟨rfl, hz⟩
    have HZ := Lib.hid (below_trans HB2.out hz)
    clear hz
    go_wp2_with fail
    go_ret
    exact ⟨rfl, HZ.out⟩
  | true =>
    go_wp2_with fail
    (with_reducible refine HG.out.mono ?_)
    rintro e w' ⟨rfl, hz⟩
    have HZ := Lib.hid (below_trans HB2.out hz)
    obtain ⟨d0, d1, d2, d3⟩ := box4 (HX2.out.below hz)
    have hsz2 := (HX2.out.below hz).1
    clear hz
    go_wp2_with fail
    (with_reducible refine (HQ.out _).mono ?_)
    rintro e w'' ⟨rfl, hz⟩
    have HZ2 := Lib.hid (below_trans HZ.out (below_trans (al w' _) hz))
    clear hz
    go_wp2_with fail
    go_ret
    exact ⟨rfl, HZ2.out⟩
end Go.Proofs.Ytcehhgcfkoldfaa.Waits
