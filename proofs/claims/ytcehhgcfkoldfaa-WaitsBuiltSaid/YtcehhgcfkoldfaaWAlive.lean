/-
  The law's own alive.
-/
import Derived.Test.YtcehhgcfkoldfaaWCalls
import Derived.Test.YtcehhgcfkoldfaaWOf
namespace Go.Proofs.Ytcehhgcfkoldfaa.Waits
open Go.ChangeShapes Go.WideShapes Go.ChangeAt Go.RowKit Go.Shelf Go.Lib
open Go.Proofs.Ytcehhgcfkoldfaa.Goods
open Go.Proofs.Ytcehhgcfkoldfaa.Queue (Wt ltB wv QRow)

/-- 'cup'. -/
def cup : ByteArray := ⟨#[99, 117, 112]⟩
theorem cup_name : nameB cup = true := by decide
def la : Ln := ⟨cup, ⟨1, 1, 1⟩⟩
def lb : Ln := ⟨cup, ⟨0, 7, 2⟩⟩
theorem may_a : mayL la = true := by unfold mayL la; rw [cup_name]; rfl
theorem may_b : mayL lb = true := by unfold mayL lb; rw [cup_name]; rfl
theorem ap_ab : Apart la lb := ⟨by decide, by decide⟩
theorem all_ab : AllP [la, lb] := ⟨by simp, by
  intro x hx
  rcases List.mem_cons.1 hx with rfl | hx
  · exact may_a
  · rw [List.mem_singleton.1 hx]; exact may_b, by simp [ap_ab]⟩
theorem lt_ba : ltL lb la = true := by rw [ltL_eq (a := lb) (b := la) rfl]; rfl
theorem lt_ab : ltL la lb = false := ltL_asym lt_ba
theorem make_ab : makeL [la, lb] = [lb, la] := by
  show insL lb (insL la []) = [lb, la]
  rw [insL, insL, if_neg (by rw [lt_ab]; simp)]
theorem alive1 : makeE [la, lb] = 0 ∧ makeO [la, lb] = [lb, la] := by
  unfold makeE makeO
  rw [allB_t.2 all_ab, if_pos rfl, if_pos rfl]
  exact ⟨rfl, make_ab⟩
theorem right_ba : Waits.rightB [lb, la] = true := by rw [← make_ab]; exact rightB_t.2 (make_right all_ab)
theorem alive2 : ofE [lb, la] = 0 ∧ ofO [lb, la] cup = [⟨0, 7, 2⟩, ⟨1, 1, 1⟩] := by
  unfold ofE ofO
  rw [right_ba]
  refine ⟨rfl, ?_⟩
  rw [if_neg (by simp)]
  unfold ofL
  rw [List.filter_cons, if_pos (by simp [lb]), List.filter_cons, if_pos (by simp [la])]
  rfl
theorem LRow.two (w : World) (x y : Ln) : LRow (w.alloc (.cells #[.string x.k, .int .i64 x.w.c, .int .i64 x.w.s, .int .i64 x.w.o, .string y.k, .int .i64 y.w.c, .int .i64 y.w.s, .int .i64 y.w.o] 26)) (.slice (some ⟨w.heap.size, 0, none⟩) 2 2) [x, y] := by
  refine ⟨_, 2, rfl, by simp, by omega, fun _ => ⟨_, 0, rfl, by simp, fun j hj => ?_⟩⟩
  have hj2 : j = 0 ∨ j = 1 := by simp at hj; omega
  rcases hj2 with rfl | rfl
  · refine ⟨?_, ?_, ?_, ?_⟩ <;> simp
  · refine ⟨?_, ?_, ?_, ?_⟩ <;> simp

set_option maxRecDepth 100000 in
set_option maxHeartbeats 1000000 in
theorem alive_any (w : World) : Calls Try.prog 13 #[] w (BoolB true w) := by
  have h1 := Make_any (LRow.two w la lb) ⟨by simp, by intro x hx; rcases List.mem_cons.1 hx with rfl | hx; decide; rw [List.mem_singleton.1 hx]; decide⟩
  rw [alive1.1, alive1.2] at h1
  have h2 := fun (v : Value) W (h : LRow W v [lb, la]) => Of_any h ⟨by simp, by intro x hx; rcases List.mem_cons.1 hx with rfl | hx; decide; rw [List.mem_singleton.1 hx]; decide⟩ cup
  simp only [alive2.1, alive2.2] at h2
  have H1 := Lib.hid h1
  have H2 := Lib.hid h2
  unfold la lb cup at H1
  unfold cup at H2
  have HB0 := Lib.hid (al w (.cells #[.string ⟨#[99, 117, 112]⟩, .int .i64 1, .int .i64 1, .int .i64 1, .string ⟨#[99, 117, 112]⟩, .int .i64 0, .int .i64 7, .int .i64 2] 26))
  clear h1 h2
  go_enter Try.func13, Try.ntmps13
  go_wp2_with fail
  (with_reducible refine H1.out.mono ?_)
  rintro e w1 ⟨v1, rfl, hr, hz⟩
  have HR := Lib.hid (H2.out _ _ hr)
  have HZ := Lib.hid (below_trans HB0.out hz)
  obtain ⟨va, vn, vc, rfl⟩ : ∃ a n c, v1 = .slice a n c := (by obtain ⟨a', c', e⟩ := hr.slice; exact ⟨a', _, c', e⟩)
  clear hr hz
  go_wp2_with fail
  (with_reducible refine HR.out.mono ?_)
  rintro e w2 ⟨v2, rfl, hr, hz⟩
  have HZ2 := Lib.hid (below_trans HZ.out hz)
  obtain ⟨a2, c2, rfl⟩ := hr.slice
  obtain ⟨b, off, rfl, hlc, hcap, hb, k0, k1, k2⟩ := hr.at (q := 0) (by simp)
  simp only [List.length_cons, List.length_nil, List.getElem_cons_zero, Nat.zero_mul, Nat.add_zero, Nat.zero_add] at *
  clear hr hz
  go_wp2_with fail
  go_ret
  exact ⟨rfl, HZ2.out⟩
end Go.Proofs.Ytcehhgcfkoldfaa.Waits
