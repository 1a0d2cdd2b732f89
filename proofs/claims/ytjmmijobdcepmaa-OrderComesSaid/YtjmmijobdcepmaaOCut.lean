/-
  The law's own cut: an order with its texts cut.
-/
import Derived.Test.YtjmmijobdcepmaaORefE
import Derived.Test.YtjmmijobdcepmaaORefC2
import Derived.Test.YtjmmijobdcepmaaORefC3
import Derived.BigRegion
namespace Go.Proofs.Ytjmmijobdcepmaa.Order
open Go.ChangeShapes Go.WideShapes Go.ChangeAt Go.RowKit
open Go.Proofs.Ytjmmijobdcepmaa.Pay (Py RightP UnitP TimeP GoodP)
open Go.Proofs.Ytjmmijobdcepmaa.Ask (As RightA)
open Go.Proofs.Ytjmmijobdcepmaa.Goods (nameB)

def cutO (o : Od) : Od := { o with k := Goods.cutT o.k, l := { o.l with k := Goods.cutT o.l.k } }
theorem cutO_fits (o : Od) : Fits (cutO o) := ⟨by have := Goods.cutT_size o.k; show (Goods.cutT o.k).size ≤ 1000000; omega, by have := Goods.cutT_size o.l.k; show (Goods.cutT o.l.k).size ≤ 1000000; omega⟩
theorem cut_step {o : Od} {w W : World} (f t : ByteArray) (hb : Box w.heap.size (ocs o) W) (hy : Box (w.heap.size + 1) (ocs noO) W) (he : Below w.heap.size w W) :
    ∃ V, ((W.setCell ⟨w.heap.size, 1, none⟩ (.string f)).setCell ⟨w.heap.size, 10, none⟩ (.string t)).drew = V ∧ Box w.heap.size (ocs { o with k := f, l := { o.l with k := t } }) V ∧ Box (w.heap.size + 1) (ocs noO) V ∧ Below w.heap.size w V := by
  have h1 := hb.over (o := 1) (cs := [.string f]) (show 1 + 1 ≤ 21 from by decide)
  have h2 := h1.over (o := 10) (cs := [.string t]) (show 10 + 1 ≤ 21 from by decide)
  have t1 := turned_setCells W w.heap.size 1 [.string f]
  have t2 := turned_setCells (W.setCells w.heap.size 1 [.string f]) w.heap.size 10 [.string t]
  exact ⟨_, rfl, Box.below h2 (dr _), (t2.1 _ _ (by omega) (t1.1 _ _ (by omega) hy)).below (dr _), below_trans (t2.2 _ _ (Nat.le_refl _) (t1.2 _ _ (Nat.le_refl _) he)) (dr _)⟩
theorem cut_ways (s : ByteArray) : (s.size ≤ 18 ∧ Goods.cutT s = s ∧ min (s.size : Int) 18 = s.size ∧ ¬ 18 < (s.size : Int)) ∨ (¬ s.size ≤ 18 ∧ Goods.cutT s = s.extract 0 18 ∧ min (s.size : Int) 18 = 18 ∧ 18 < (s.size : Int)) := by
  unfold Goods.cutT
  by_cases h : s.size ≤ 18
  · exact .inl ⟨h, if_pos h, by omega, by omega⟩
  · exact .inr ⟨h, if_neg h, by omega, by omega⟩

set_option maxRecDepth 100000 in
set_option maxHeartbeats 4000000 in
theorem cut_any (o : Od) (h1 : o.k.size ≤ 9223372036854775807) (h2 : o.l.k.size ≤ 9223372036854775807) (w : World) : Calls Try.prog 7 #[ov o] w (OrdV (cutO o) w) := by
  obtain ⟨hx, hr, hb⟩ := two_new w (ocs o) (ocs noO) 29 29
  obtain ⟨W1, hW1⟩ : ∃ W, (w.alloc (.cells #[.int .i64 o.id, .string o.k, .int .i64 o.cl, .int .i64 o.sq, .int .i64 o.n, .int .i64 o.d, .int .i64 o.p, .int .i64 o.c, .bool o.sp, .int .i64 o.ph, .string o.l.k, .int .i64 o.l.u, .int .i64 o.l.c, .int .i64 o.l.y, .int .i64 o.py.a, .int .i64 o.py.c, .int .i64 o.py.u, .int .i64 o.py.s, .int .i64 o.ak.s, .int .i64 o.ak.u, .bool o.en] 29)).alloc (.cells #[.int .i64 0, .string ⟨#[]⟩, .int .i64 0, .int .i64 0, .int .i64 0, .int .i64 0, .int .i64 0, .int .i64 0, .bool false, .int .i64 0, .string ⟨#[]⟩, .int .i64 0, .int .i64 0, .int .i64 0, .int .i64 0, .int .i64 0, .int .i64 0, .int .i64 0, .int .i64 0, .int .i64 0, .bool false] 29) = W := ⟨_, rfl⟩
  have HX : Hid (Box w.heap.size (ocs o) W1) := Lib.hid (hW1 ▸ hx)
  have HR : Hid (Box (w.heap.size + 1) (ocs noO) W1) := Lib.hid (hW1 ▸ hr)
  have HB : Hid (Below w.heap.size w W1) := Lib.hid (hW1 ▸ hb)
  clear hx hr hb
  obtain ⟨X, hX⟩ : ∃ X, cutO o = X := ⟨_, rfl⟩
  have HXX := Lib.hid hX
  rw [hX]
  clear hX
  have HS := Lib.hid (fun f t => cut_step (o := o) f t HX.out HR.out HB.out)
  unfold ov
  rcases cut_ways o.k with ⟨a1, a2, a3, a4⟩ | ⟨a1, a2, a3, a4⟩
  all_goals rcases cut_ways o.l.k with ⟨b1, b2, b3, b4⟩ | ⟨b1, b2, b3, b4⟩
  all_goals (
    have HXE : Hid (cutO o = X ∧ _ ∧ _) := Lib.hid ⟨HXX.out, a2, b2⟩
    clear a2 b2
    go_enter Try.func7, Try.ntmps7
    go_upto_region 1 with (fail)
    clear hW1
    have y1 := HX.out.at 1 rfl
    have y10 := HX.out.at 10 rfl
    have z1 := HX.out.zt 1 rfl
    have z10 := HX.out.zt 10 rfl
    have hs := HX.out.1
    go_region
    obtain ⟨V, hV, hb, hr, he⟩ := HS.out _ _
    rw [hV]
    replace HX : Hid (Box w.heap.size (ocs X) V) := Lib.hid (by rw [← HXE.out.1]; unfold cutO; rw [HXE.out.2.1, HXE.out.2.2]; exact hb)
    replace HR := Lib.hid hr
    replace HB := Lib.hid he
    clear hb hr he hV y1 y10 z1 z10 hs HS HXE HXX
    go_wp2_with (first | (refine load_at 29 _ rfl _ 0 21 rfl HX.out [.int .i64 X.id, .string X.k, .int .i64 X.cl, .int .i64 X.sq, .int .i64 X.n, .int .i64 X.d, .int .i64 X.p, .int .i64 X.c, .bool X.sp, .int .i64 X.ph, .string X.l.k, .int .i64 X.l.u, .int .i64 X.l.c, .int .i64 X.l.y, .int .i64 X.py.a, .int .i64 X.py.c, .int .i64 X.py.u, .int .i64 X.py.s, .int .i64 X.ak.s, .int .i64 X.ak.u, .bool X.en] rfl _ Try.underlying29 rfl infoO rfl ?_) | (refine store_at 29 _ _ rfl _ 0 rfl (ocs (X)) rfl HR.out (show 0 + 21 ≤ 21 from by decide) infoO (ocs_one _) (ocs (X)) (over_all rfl) rfl (fun w' hy ht => ?_); replace HB := Lib.hid (ht.2 _ _ (Nat.le_succ _) HB.out); replace HR := Lib.hid hy; clear hy ht))
    exact bodyPost_ret (results_1 rfl rfl HR.out Try.underlying29 rfl infoO) rfl ⟨rfl, HB.out⟩)
end Go.Proofs.Ytjmmijobdcepmaa.Order
