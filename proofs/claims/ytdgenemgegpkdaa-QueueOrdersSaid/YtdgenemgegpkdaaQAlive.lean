/-
  Contract of the law's own alive.
-/
import Derived.Test.YtdgenemgegpkdaaQArg
namespace Go.Proofs.Ytdgenemgegpkdaa.Queue
open Go.ChangeShapes Go.WideShapes Go.ChangeAt Go.RowKit Go.Lib Go.Sort

theorem two_hp : hpB [⟨0, 9, 2⟩, ⟨1, 1, 1⟩] = true := hpB_t.2 fun k h1 hk => by
  obtain rfl : k = 1 := by simp at hk; omega
  decide
theorem two_right : rightB [⟨0, 9, 2⟩, ⟨1, 1, 1⟩] = true := by unfold rightB; rw [two_hp]; decide
theorem two_build : (heapBuild gtB 2 0 1 #[(⟨1, 1, 1⟩ : Wt), ⟨0, 9, 2⟩]).toList = [⟨0, 9, 2⟩, ⟨1, 1, 1⟩] := by
  show (down 2 0 #[(⟨1, 1, 1⟩ : Wt), ⟨0, 9, 2⟩]).toList = _
  rw [dn_left_go _ (by omega) (by omega) (by decide), dn_end _ (by omega)]
  rfl
theorem two_pop : down 1 0 (swp #[(⟨0, 9, 2⟩ : Wt), ⟨1, 1, 1⟩] 0 1) = #[(⟨1, 1, 1⟩ : Wt), ⟨0, 9, 2⟩] := by
  rw [dn_end _ (by omega)]
  rfl
theorem two_row (w : World) : QRow (w.alloc (.cells #[.int .i64 1, .int .i64 1, .int .i64 1, .int .i64 0, .int .i64 9, .int .i64 2] 24)) (.slice (some ⟨w.heap.size, 0, none⟩) 2 2) [⟨1, 1, 1⟩, ⟨0, 9, 2⟩] := by
  have hb := Box.made w [.int .i64 1, .int .i64 1, .int .i64 1, .int .i64 0, .int .i64 9, .int .i64 2] 24
  refine ⟨_, 2, rfl, by decide, by omega, fun _ => ⟨_, 0, rfl, hb.1, fun j hj => ?_⟩⟩
  match j, hj with
  | 0, _ => exact ⟨(hb.2 0 _ rfl).1, (hb.2 1 _ rfl).1, (hb.2 2 _ rfl).1⟩
  | 1, _ => exact ⟨(hb.2 3 _ rfl).1, (hb.2 4 _ rfl).1, (hb.2 5 _ rfl).1⟩

set_option maxHeartbeats 2000000 in
set_option maxRecDepth 100000 in
theorem alive_any (w : World) : Calls Try.prog 14 #[] w (BoolB true w) := by
  have hm := Make_yes (two_row w) (by decide)
  rw [show (heapBuild gtB [(⟨1, 1, 1⟩ : Wt), ⟨0, 9, 2⟩].length 0 ([(⟨1, 1, 1⟩ : Wt), ⟨0, 9, 2⟩].length / 2) [(⟨1, 1, 1⟩ : Wt), ⟨0, 9, 2⟩].toArray).toList = [⟨0, 9, 2⟩, ⟨1, 1, 1⟩] from two_build] at hm
  have HM := Lib.hid hm
  have HAL := Lib.hid (al w (.cells #[.int .i64 1, .int .i64 1, .int .i64 1, .int .i64 0, .int .i64 9, .int .i64 2] 24))
  have HP := Lib.hid (fun (W : World) v (h : QRow W v [⟨0, 9, 2⟩, ⟨1, 1, 1⟩]) => (show Calls Try.prog 19 #[v] W (PopE [⟨1, 1, 1⟩] ⟨0, 9, 2⟩ 0 W) from by
    have hp := Pop_yes h two_right (by decide) (by decide)
    rw [show down ([(⟨0, 9, 2⟩ : Wt), ⟨1, 1, 1⟩].length - 1) 0 (swp [(⟨0, 9, 2⟩ : Wt), ⟨1, 1, 1⟩].toArray 0 ([(⟨0, 9, 2⟩ : Wt), ⟨1, 1, 1⟩].length - 1)) = _ from two_pop] at hp
    exact hp))
  clear hm
  go_enter Try.func14, Try.ntmps14
  go_wp2_with (first
    | (go_at_call 8; (with_reducible refine HM.out.mono ?_); rintro e w1 ⟨v1, rfl, q1, b1⟩; have HB1 := Lib.hid (below_trans HAL.out b1); obtain ⟨a1, k1, rfl⟩ : ∃ a k, v1 = .slice a 2 k := q1.slice; have HP1 := Lib.hid (HP.out w1 _ q1); clear q1 b1)
    | (go_at_call 19; (with_reducible refine HP1.out.mono ?_); rintro e w2 ⟨v2, rfl, q2, b2⟩; have HB2 := Lib.hid (below_trans HB1.out b2); obtain ⟨a2, k2, rfl⟩ : ∃ a k, v2 = .slice a 1 k := q2.slice; clear q2 b2; unfold wv))
  go_ret
  exact ⟨rfl, below_trans HB2.out ((al _ _).trans ((Below.refl _ _)))⟩
end Go.Proofs.Ytdgenemgegpkdaa.Queue
