/-
  Push and Pop of package queue.
-/
import Derived.Test.YtdgenemgegpkdaaQInit
namespace Go.Proofs.Ytdgenemgegpkdaa.Queue
open Go.ChangeShapes Go.WideShapes Go.ChangeAt Go.RowKit Go.Shelf Go.Sort

theorem cells_below {w W : World} {x : Wt} (hb : Below (w.alloc (.cells #[.int .i64 x.c, .int .i64 x.s, .int .i64 x.o] 24)).heap.size (w.alloc (.cells #[.int .i64 x.c, .int .i64 x.s, .int .i64 x.o] 24)) W) : W.cell? ⟨w.heap.size, 0, none⟩ = some (.int .i64 x.c) ∧ W.cell? ⟨w.heap.size, 1, none⟩ = some (.int .i64 x.s) ∧ W.cell? ⟨w.heap.size, 2, none⟩ = some (.int .i64 x.o) :=
  ((Box.made w [.int .i64 x.c, .int .i64 x.s, .int .i64 x.o] 24).below hb).c3

/-- Why a wait is not pushed. -/
noncomputable def pushK (l : List Wt) (x : Wt) : Int := if (rightB l && mayB x) = false then 1 else if l.length = 64 then 7 else 0
set_option maxHeartbeats 2000000 in
set_option maxRecDepth 100000 in
theorem Push_no {v : Value} {l : List Wt} {w : World} (h : QRow w v l) (hl : l.length ≤ 1000) (x : Wt) (hk : pushK l x ≠ 0) : Calls Try.prog 18 #[v, wv x] w (RowE [] (pushK l x) w) := by
  have HA := Lib.hid (al w (.cells #[.int .i64 x.c, .int .i64 x.s, .int .i64 x.o] 24))
  have HR := Lib.hid (Right_any (h.below HA.out) hl)
  have HO := Lib.hid (fun W => oneMayBe_any x W)
  have HCE := Lib.hid (fun W hb => cells_below (w := w) (W := W) (x := x) hb)
  obtain ⟨a, cap, rfl⟩ := h.slice
  clear h
  have HK : Hid (pushK l x = if (rightB l && mayB x) = false then 1 else if l.length = 64 then 7 else 0) := Lib.hid rfl
  unfold wv at HO ⊢
  generalize pushK l x = k at hk HK ⊢
  generalize rightB l = r at HR HK
  generalize mayB x = m at HO HK
  cases r with
  | false =>
    obtain rfl : k = 1 := by rw [HK.out]; rfl
    clear HK hk HO HCE
    go_enter Try.func18, Try.ntmps18
    go_wp2_with (go_at_call 12; (with_reducible refine HR.out.mono ?_); rintro e w1 ⟨rfl, hz⟩; have HZ := Lib.hid (below_trans HA.out hz); clear hz)
    go_ret2
    exact ⟨_, rfl, nil_row _, HZ.out⟩
  | true =>
    cases m with
    | false =>
      obtain rfl : k = 1 := by rw [HK.out]; rfl
      clear HK hk
      go_enter Try.func18, Try.ntmps18
      go_wp2_with (first
        | (go_at_call 12; (with_reducible refine HR.out.mono ?_); rintro e w1 ⟨rfl, hz⟩; have HZ := Lib.hid (below_trans HA.out hz); obtain ⟨c0, c1, c2⟩ := HCE.out _ hz; clear hz)
        | (go_at_call 28; (with_reducible refine (HO.out _).mono ?_); rintro e w2 ⟨rfl, hz⟩; have HZ2 := Lib.hid (below_trans HZ.out hz); clear hz))
      go_ret2
      exact ⟨_, rfl, nil_row _, HZ2.out⟩
    | true =>
      by_cases h64 : l.length = 64
      · obtain rfl : k = 7 := by rw [HK.out]; rw [if_neg (by decide), if_pos h64]
        have hb64 : ((l.length : Int) == 64) = true := by rw [h64]; rfl
        generalize l.length = n at *
        clear HK hk h64
        go_enter Try.func18, Try.ntmps18
        go_wp2_with (first
          | (go_at_call 12; (with_reducible refine HR.out.mono ?_); rintro e w1 ⟨rfl, hz⟩; have HZ := Lib.hid (below_trans HA.out hz); obtain ⟨c0, c1, c2⟩ := HCE.out _ hz; clear hz)
          | (go_at_call 28; (with_reducible refine (HO.out _).mono ?_); rintro e w2 ⟨rfl, hz⟩; have HZ2 := Lib.hid (below_trans HZ.out hz); clear hz))
        go_ret2
        exact ⟨_, rfl, nil_row _, HZ2.out⟩
      · exact absurd (by rw [HK.out, if_neg (by decide), if_neg h64]) hk

set_option maxHeartbeats 2000000 in
set_option maxRecDepth 100000 in
theorem Push_yes {v : Value} {l : List Wt} {w : World} (h : QRow w v l) (x : Wt) (hr : rightB l = true) (hm : mayB x = true) (hl : l.length < 64) : Calls Try.prog 18 #[v, wv x] w (RowE (up l.length (l ++ [x]).toArray).toList 0 w) := by
  have HA := Lib.hid (al w (.cells #[.int .i64 x.c, .int .i64 x.s, .int .i64 x.o] 24))
  have hra := Right_any (h.below HA.out) (by omega)
  rw [hr] at hra
  have HR := Lib.hid hra
  have hoa := fun W => oneMayBe_any x W
  rw [hm] at hoa
  have HO := Lib.hid hoa
  have HCE := Lib.hid (fun W hb => cells_below (w := w) (W := W) (x := x) hb)
  have HC := Lib.hid (fun W (hb : Below w.heap.size w W) => Clone_any (h.below hb) (by omega))
  have HWV : Hid (wv x = .agg #[.int .i64 x.c, .int .i64 x.s, .int .i64 x.o]) := Lib.hid rfl
  obtain ⟨a, cap, rfl⟩ := h.slice
  have hne : ((l.length : Int) == 64) = false := by simp; omega
  clear h hra hoa hr hm
  unfold wv at HO ⊢
  go_enter Try.func18, Try.ntmps18
  go_wp2_with (first
    | (go_at_call 12; (with_reducible refine HR.out.mono ?_); rintro e w1 ⟨rfl, hz⟩; have HZA := Lib.hid hz; have HZ := Lib.hid (below_trans HA.out hz); obtain ⟨c0, c1, c2⟩ := HCE.out _ hz; clear hz)
    | (go_at_call 28; (with_reducible refine (HO.out _).mono ?_); rintro e w2 ⟨rfl, hz⟩; have HZ2A := Lib.hid (below_trans HZA.out hz); have HZ2 := Lib.hid (below_trans HZ.out hz); clear hz)
    | (go_at_call 22; (with_reducible refine (HC.out _ HZ2.out).mono ?_); rintro e w3 ⟨vC, rfl, ho, hb⟩; have hs := HS.made ho hb.size; have HPU := Lib.hid (HPush_any hs (by omega) x); rw [HWV.out] at HPU; obtain ⟨d0, d1, d2⟩ := HCE.out _ (below_trans HZ2A.out (below_trans hb (al w3 (.cells #[vC] 40)))); have HBC := Lib.hid (below_trans HZ2.out (below_trans hb (al w3 (.cells #[vC] 40)))); have HBS := Lib.hid HZ2.out.size; obtain ⟨aC, cC, rfl⟩ := ho.row.slice; clear hs ho hb)
    | (go_at_call 29; (with_reducible refine HPU.out.mono ?_); rintro e w4 ⟨rfl, v4, h4, b4⟩; have H4 := Lib.hid h4; have HB4 := Lib.hid (HBC.out.trans (b4.mono HBS.out)); obtain ⟨c4, f4⟩ := h4.cell; clear h4 b4))
  go_ret2
  exact ⟨_, rfl, H4.out.2.1.row, HB4.out⟩

theorem Box.keep {b B : Nat} {vs : List Value} {w w' : World} (h : Box b vs w) (hB : b < B) (hb : Below B w w') : Box b vs w' :=
  ⟨Nat.lt_of_lt_of_le h.1 hb.size, fun j v hj => ⟨(hb.cell (p := ⟨b, j, none⟩) hB).trans (h.2 j v hj).1, (hb.frozen (p := ⟨b, j, none⟩) hB).trans (h.2 j v hj).2⟩⟩
/-- A row, a wait and an error's number are returned. -/
def PopE (l : List Wt) (x : Wt) (k : Int) (w : World) (e : Ending) (w' : World) : Prop := ∃ v, e = .returned (.tuple #[v, wv x, .int .i64 k]) ∧ QRow w' v l ∧ Below w.heap.size w w'
set_option maxHeartbeats 2000000 in
set_option maxRecDepth 100000 in
theorem Pop_yes {v : Value} {l : List Wt} {w : World} (h : QRow w v l) (hr : rightB l = true) (h0 : 0 < l.length) (hl : l.length ≤ 64) : Calls Try.prog 19 #[v] w (PopE (down (l.length - 1) 0 (swp l.toArray 0 (l.length - 1))).toList.dropLast (down (l.length - 1) 0 (swp l.toArray 0 (l.length - 1)))[l.length - 1]! 0 w) := by
  have HA := Lib.hid (al w (.cells #[.int .i64 0, .int .i64 0, .int .i64 0] 24))
  have HX := Lib.hid (Box.made w [.int .i64 0, .int .i64 0, .int .i64 0] 24)
  have hra := Right_any (h.below HA.out) (by omega)
  rw [hr] at hra
  have HR := Lib.hid hra
  have HC := Lib.hid (fun W (hb : Below w.heap.size w W) => Clone_any (h.below hb) (by omega))
  obtain ⟨a, cap, rfl⟩ := h.slice
  have hne : ((l.length : Int) == 0) = false := beq_eq_false_iff_ne.2 (by omega)
  obtain ⟨x, hx⟩ : ∃ x, (down (l.length - 1) 0 (swp l.toArray 0 (l.length - 1)))[l.length - 1]! = x := ⟨_, rfl⟩
  have HXX := Lib.hid hx
  rw [hx]
  have hta : ∀ W, Sem.run Try.prog (Instr.typeAssert (.iface 24 (.agg #[.int .i64 x.c, .int .i64 x.s, .int .i64 x.o])) 20 24 false) W = .ok (.agg #[.int .i64 x.c, .int .i64 x.s, .int .i64 x.o]) W := fun _ => by kernel_rfl
  clear h hra hr hx
  go_enter Try.func19, Try.ntmps19
  go_upto_region 7 with (first
    | (go_at_call 12; (with_reducible refine HR.out.mono ?_); rintro e w1 ⟨rfl, hz⟩; have HX1 := Lib.hid (HX.out.below hz); have HZ := Lib.hid (below_trans HA.out hz); clear hz)
    | (go_at_call 22; (with_reducible refine (HC.out _ HZ.out).mono ?_); rintro e w3 ⟨vC, rfl, ho, hb⟩; have hs := HS.made ho hb.size; have HPO := Lib.hid (HPop_any hs h0 (by omega)); have HX3 := Lib.hid (HX1.out.below (below_trans hb (al w3 (.cells #[vC] 40)))); have HXL := Lib.hid HX1.out.1; have HBC := Lib.hid (below_trans HZ.out (below_trans hb (al w3 (.cells #[vC] 40)))); have HBS := Lib.hid HZ.out.size; have HLT := Lib.hid hb.size; obtain ⟨aC, cC, rfl⟩ := ho.row.slice; clear hs ho hb)
    | (go_at_call 30; (with_reducible refine HPO.out.mono ?_); rintro e w4 ⟨rfl, v4, h4, b4⟩; rw [HXX.out]; unfold wv; have H4 := Lib.hid h4; have HB4 := Lib.hid (HBC.out.trans (b4.mono HBS.out)); have HX4 := Lib.hid (HX3.out.keep HXL.out b4); obtain ⟨c4, f4⟩ := h4.cell; clear h4 b4))
  obtain ⟨a4, n4, c4', rfl⟩ : ∃ a n c, v4 = .slice a n c := by obtain ⟨a', c', e⟩ := H4.out.2.1.row.slice; exact ⟨a', _, c', e⟩
  obtain ⟨W4, hW4⟩ : ∃ W, w4.alloc (.cells #[.int .i64 x.c, .int .i64 x.s, .int .i64 x.o] 24) = W := ⟨_, rfl⟩
  have hal : Below w4.heap.size w4 W4 := hW4 ▸ al w4 _
  have hbx : Box w4.heap.size [.int .i64 x.c, .int .i64 x.s, .int .i64 x.o] W4 := hW4 ▸ Box.made w4 _ _
  have hbz : Box w.heap.size [.int .i64 0, .int .i64 0, .int .i64 0] W4 := HX4.out.below hal
  have H5 := Lib.hid (H4.out.below hal)
  have HB5 := Lib.hid (HB4.out.trans (hal.mono HB4.out.size))
  have hlz : w.heap.size < W4.heap.size := hbz.1
  obtain ⟨k5, g5⟩ := H5.out.cell
  obtain ⟨x0, x1, x2⟩ := hbx.c3
  obtain ⟨z0, z1, z2⟩ := hbz.c3
  have y0 := (hbz.2 0 _ rfl).2
  have y1 := (hbz.2 1 _ rfl).2
  have y2 := (hbz.2 2 _ rfl).2
  rw [hW4]
  clear hW4 hal hbx hbz c4 f4 HX4 H4 HB4 HX HX1 HX3 HPO HC HR HA hta
  generalize w4.heap.size = gx at *
  obtain ⟨gz, hgz⟩ : ∃ g, w.heap.size = g := ⟨_, rfl⟩
  rw [hgz] at hlz z0 z1 z2 y0 y1 y2 ⊢
  have hgB : gz < w1.heap.size := hgz ▸ HXL.out
  have hown : (Value.slice a4 n4 c4').ownBlock ≠ some gz := fun e => by have := (H5.out.2.1.lt gz e).1; omega
  obtain ⟨W5, hW5⟩ : ∃ W, (((W4.setCell ⟨gz, 0, none⟩ (.int .i64 x.c)).setCell ⟨gz, 1, none⟩ (.int .i64 x.s)).setCell ⟨gz, 2, none⟩ (.int .i64 x.o)).drew = W := ⟨_, rfl⟩
  have HR5 : Hid (QRow W5 (.slice a4 n4 c4') (down (l.length - 1) 0 (swp l.toArray 0 (l.length - 1))).toList.dropLast) := Lib.hid (by
    have h1 := ownsRow_setCell_other (a := ⟨gz, 0, none⟩) H5.out.2.1 hown (.int .i64 x.c)
    have h2 := ownsRow_setCell_other (a := ⟨gz, 1, none⟩) h1 hown (.int .i64 x.s)
    have h3 := ownsRow_setCell_other (a := ⟨gz, 2, none⟩) h2 hown (.int .i64 x.o)
    rw [← hW5]
    exact (OwnQ.row h3).below (dr _))
  have HB6 : Hid (Below w.heap.size w W5) := Lib.hid (by
    rw [← hW5]
    have hgw : w.heap.size ≤ gz := Nat.le_of_eq hgz
    have hb1 := ((HB5.out.setCell (p := ⟨gz, 0, none⟩) hgw (.int .i64 x.c)).setCell (p := ⟨gz, 1, none⟩) hgw (.int .i64 x.s)).setCell (p := ⟨gz, 2, none⟩) hgw (.int .i64 x.o)
    exact below_trans hb1 (dr _))
  have q0 : W5.cell? ⟨gz, 0, none⟩ = some (.int .i64 x.c) := by rw [← hW5]; simp [go_sem, z0]
  have q1 : W5.cell? ⟨gz, 1, none⟩ = some (.int .i64 x.s) := by rw [← hW5]; simp [go_sem, z1]
  have q2 : W5.cell? ⟨gz, 2, none⟩ = some (.int .i64 x.o) := by rw [← hW5]; simp [go_sem, z2]
  go_region
  clear hW5
  go_wp2_with fail
  exact bodyPost_ret (v := .tuple #[.slice a4 n4 c4', .agg #[.int .i64 x.c, .int .i64 x.s, .int .i64 x.o], .int .i64 0]) (by simp [results, Try.results19, go_sem, q0, q1, q2]) rfl ⟨_, rfl, HR5.out, HB6.out⟩
end Go.Proofs.Ytdgenemgegpkdaa.Queue
