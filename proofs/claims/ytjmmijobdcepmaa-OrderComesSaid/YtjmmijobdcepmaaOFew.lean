/-
  The law's own alive; an order of a law's own.
-/
import Derived.Test.YtjmmijobdcepmaaOGoC
import Derived.Test.YtjmmijobdcepmaaOMath2
import Derived.Test.YtjmmijobdcepmaaOGoB
namespace Go.Proofs.Ytjmmijobdcepmaa.Order
open Go.ChangeShapes Go.WideShapes Go.ChangeAt Go.RowKit
open Go.Proofs.Ytjmmijobdcepmaa.Pay (Py RightP UnitP TimeP GoodP)
open Go.Proofs.Ytjmmijobdcepmaa.Ask (As RightA)
open Go.Proofs.Ytjmmijobdcepmaa.Goods (nameB)

def cup : ByteArray := ⟨#[99, 117, 112]⟩
theorem cup_name : nameB cup = true := by decide
/-- The order that 'alive' has come. -/
def aliveO : Od := ⟨1, cup, 0, 1, 5, 0, 2, 0, true, 0, noL, Pay.noP, Ask.noA, false⟩
def bornO : Od := ⟨1, cup, 0, 1, 5, 0, 2, 0, true, 1, noL, ⟨10, 0, 9, 1⟩, Ask.noA, false⟩
theorem born_right : RightO bornO :=
  ⟨⟨by decide, cup_name, by decide, by decide, by decide, by decide, by decide, by decide, .inl ⟨rfl, rfl⟩, rfl, rfl⟩, .inl ⟨rfl, by decide, ⟨rfl, rfl⟩, by decide⟩⟩
theorem born_new : newE aliveO 9 = 0 ∧ newO aliveO 9 = bornO := by
  have e : newX aliveO 9 = bornO := rfl
  rcases new_ways aliveO 9 with ⟨h, _⟩ | ⟨_, _, _, h, _⟩ | ⟨_, _, _, _, h, _⟩ | ⟨_, _, _, _, _, h1, h2⟩
  · exact absurd ⟨by decide, by decide, by decide⟩ h
  · exact absurd h (by decide)
  · rw [e, rightB_t.2 born_right] at h; cases h
  · exact ⟨h1, h2.trans e⟩
theorem born_wants : wants bornO 3 0 = 3 := by
  rcases wants_ways bornO 3 0 with ⟨h, _⟩ | ⟨_, _, _, _, h, _⟩ | ⟨_, _, _, _, _, _, e⟩ | ⟨_, _, _, _, _, h, _⟩
  · exact absurd ⟨born_right, rfl, ⟨born_right.1.2.2.2.2.2.2.2.1, rfl, by decide⟩, by decide⟩ h
  · exact absurd h (by decide)
  · exact e
  · cases h

set_option maxRecDepth 100000 in
set_option maxHeartbeats 4000000 in
theorem alive_any (w : World) : Calls Try.prog 11 #[] w (BoolB true w) := by
  have fA : Fits aliveO := ⟨by decide, by decide⟩
  have fB : Fits bornO := ⟨by decide, by decide⟩
  have HN : Hid (∀ w, Calls Try.prog 8 #[.agg #[.int .i64 1, .string ⟨#[99, 117, 112]⟩, .int .i64 0, .int .i64 1, .int .i64 5, .int .i64 0, .int .i64 2, .int .i64 0, .bool true, .int .i64 0, .string ⟨#[]⟩, .int .i64 0, .int .i64 0, .int .i64 0, .int .i64 0, .int .i64 0, .int .i64 0, .int .i64 0, .int .i64 0, .int .i64 0, .bool false], .int .i64 9] w (OrdE bornO 0 w)) := Lib.hid (fun w => by
    have := New_any aliveO 9 fA w
    rw [born_new.1, born_new.2] at this
    exact this)
  have HW := Lib.hid (fun w => Wants_any bornO 3 0 fB w)
  rw [born_wants] at HW
  have HR := Lib.hid (Right_any bornO fB)
  rw [rightB_t.2 born_right] at HR
  have HB : Hid (Below w.heap.size w w) := Lib.hid (Below.refl _ _)
  unfold ov at HW HR
  go_enter Try.func11, Try.ntmps11
  go_wp2_with (first | (go_at_call 8; (with_reducible refine (HN.out _).mono ?_); rintro e w' ⟨rfl, hz⟩; replace HB := Lib.hid (below_trans HB.out hz); clear hz) | (refine store_part rfl 29 _ _ rfl _ 0 rfl (ocs bornO) rfl (Box.made _ (ocs noO) _) (show 0 + 21 ≤ 21 from by decide) infoO (ocs_one _) (ocs bornO) (over_all rfl) (fun w' hy ht => ?_); have HO := Lib.hid hy; replace HB := Lib.hid (ht.2 _ _ HB.out.size (below_trans HB.out (al _ _))); clear hy ht) | (refine load_part rfl 29 _ rfl _ 0 21 rfl HO.out [.int .i64 bornO.id, .string bornO.k, .int .i64 bornO.cl, .int .i64 bornO.sq, .int .i64 bornO.n, .int .i64 bornO.d, .int .i64 bornO.p, .int .i64 bornO.c, .bool bornO.sp, .int .i64 bornO.ph, .string bornO.l.k, .int .i64 bornO.l.u, .int .i64 bornO.l.c, .int .i64 bornO.l.y, .int .i64 bornO.py.a, .int .i64 bornO.py.c, .int .i64 bornO.py.u, .int .i64 bornO.py.s, .int .i64 bornO.ak.s, .int .i64 bornO.ak.u, .bool bornO.en] rfl _ Try.underlying29 rfl infoO ?_) | (go_at_call 15; (with_reducible refine (HW.out _).mono ?_); rintro e w' ⟨rfl, hz⟩; replace HB := Lib.hid (below_trans HB.out hz); replace HO := Lib.hid (HO.out.below hz); clear hz) | (go_at_call 12; (with_reducible refine (HR.out _).mono ?_); rintro e w' ⟨rfl, hz⟩; replace HB := Lib.hid (below_trans HB.out hz); replace HO := Lib.hid (HO.out.below hz); clear hz; have y14 := (show _ = some (Value.int .i64 10) from HO.out.at 14 rfl)))
  go_ret
  exact ⟨rfl, HB.out⟩
end Go.Proofs.Ytjmmijobdcepmaa.Order
