/-
  Proved: for any number of sectors and any acts the law JournalLives returns true: whatever is appended, sealed, and crashes, again and again, a journal's disk opens always, and has just the records that were sealed, or, of a late crash, those and all that waited. No condition.
-/
import Derived.Test.YtndakbjmahkjdaaRows
import Derived.Test.YtndakbjmahkjdaaMz
namespace Go.Proofs.Ytndakbjmahkjdaa.journalLives
open Go.ChangeShapes Go.WideShapes Go.ChangeAt Go.RowKit Go.Lib Go.Proofs.Ytndakbjmahkjdaa.Disk Go.Proofs.Ytndakbjmahkjdaa.Disk.Jn
open Go.Proofs.Ytndakbjmahkjdaa.Frame (frm frms)
open Go.ChangeMaps (open_string shut_string)
set_option linter.unusedVariables false

theorem own : ownKnob Try.prog.godebug = none := by kernel_rfl
theorem laidOut : laidOutB Try.prog = true := by kernel_rfl

/-- At the head of the loop: the journal in its block, that may be; nothing that came in has turned. -/
def Head (w : World) (b : Nat) (wr : World) : Prop := ∃ (aS aW aG aR : Option Addr) (nS nW nG nR cS cW cG cR : Nat) (J : JN) (t : Jn.Told), JB b (.slice aS nS cS) (.slice aW nW cW) (.slice aG nG cG) (.slice aR nR cR) J wr ∧ May J t ∧ Below w.heap.size w wr

theorem srow_slice {W : World} {v : Value} {l : List ByteArray} (h : Disk.SRow W v l) : ∃ a n c, v = .slice a n c := by obtain ⟨a, c, e⟩ := h.slice; exact ⟨a, _, c, e⟩
theorem wrow_slice {W : World} {v : Value} {l : List (Int × ByteArray)} (h : WRow W v l) : ∃ a n c, v = .slice a n c := by obtain ⟨a, c, e⟩ := h.slice; exact ⟨a, _, c, e⟩
theorem calm_np {Q : Exit → Act → World → Prop} : Jn.Calm (NoPanic Q) := fun _ _ _ _ _ h => h
/-- A slice that reads as these texts. -/
def RowV (W : World) (v : Value) (l : List ByteArray) : Prop := ∃ a n c, v = .slice a n c ∧ Disk.SRow W v l
theorem RowV.below {W W' : World} {v : Value} {l : List ByteArray} (h : RowV W v l) (hb : Below W.heap.size W W') : RowV W' v l := by
  obtain ⟨a, n, c, e, hr⟩ := h
  exact ⟨a, n, c, e, hr.below hb⟩
/-- Behind the switch: refused as full, or another journal, with the records as they were, or as they would be. -/
def Done (b11 : Nat) (v9 v10 v12 : Value) (W : World) : Prop := v12 = .int .i64 7 ∨ (v12 = .int .i64 0 ∧ ∃ (aS aW aG aR : Option Addr) (nS nW nG nR cS cW cG cR : Nat) (X : JN) (t : Jn.Told) (l9 l10 : List ByteArray),
  JB b11 (.slice aS nS cS) (.slice aW nW cW) (.slice aG nG cG) (.slice aR nR cR) X W ∧ May X t ∧ RowV W v9 l9 ∧ RowV W v10 l10 ∧ (X.l = l9 ∨ X.l = l10) ∧ l9.length ≤ 200000 ∧ l10.length ≤ 200000)
theorem slice_keep {W : World} {b i n c : Nat} {a : Option Addr} (hb : W.cell? ⟨b, 0, none⟩ = some (.slice a n c)) (u : Value) : (W.setCell ⟨b, i + 1, none⟩ u).cell? ⟨b, 0, none⟩ = some (.slice a n c) := by
  rw [World.cell?_setCell_other _ _ _ _ (by intro e; cases e)]
  exact hb
theorem srow_st7 {W : World} {v : Value} {ls : List ByteArray} (h : Disk.SRow W v ls) {b n c n0 c0 : Nat} {a a0 : Option Addr} (hb : W.cell? ⟨b, 0, none⟩ = some (.slice a0 n0 c0)) (u1 u2 u3 u4 u5 u6 : Value) : Disk.SRow (((((((W.setCell ⟨b, 0, none⟩ (.slice a n c)).setCell ⟨b, 1, none⟩ u1).setCell ⟨b, 2, none⟩ u2).setCell ⟨b, 3, none⟩ u3).setCell ⟨b, 4, none⟩ u4).setCell ⟨b, 5, none⟩ u5).setCell ⟨b, 6, none⟩ u6) v ls := by
  have h0 : (W.setCell ⟨b, 0, none⟩ (.slice a n c)).cell? ⟨b, 0, none⟩ = some (.slice a n c) := World.cell?_setCell_same _ _ _ hb
  exact srow_apart (srow_apart (srow_apart (srow_apart (srow_apart (srow_apart (srow_apart h hb _) h0 _) (slice_keep h0 _) _) (slice_keep (slice_keep h0 _) _) _) (slice_keep (slice_keep (slice_keep h0 _) _) _) _) (slice_keep (slice_keep (slice_keep (slice_keep h0 _) _) _) _) _) (slice_keep (slice_keep (slice_keep (slice_keep (slice_keep h0 _) _) _) _) _) _
theorem wrow_st7 {W : World} {v : Value} (h : WRow W v []) {b n c : Nat} {a : Option Addr} (u1 u2 u3 u4 u5 u6 : Value) : WRow (((((((W.setCell ⟨b, 0, none⟩ (.slice a n c)).setCell ⟨b, 1, none⟩ u1).setCell ⟨b, 2, none⟩ u2).setCell ⟨b, 3, none⟩ u3).setCell ⟨b, 4, none⟩ u4).setCell ⟨b, 5, none⟩ u5).setCell ⟨b, 6, none⟩ u6) v [] :=
  wrow_apart (wrow_apart (wrow_apart (wrow_apart (wrow_apart (wrow_apart (wrow_apart h _) _) _) _) _) _) _
/-- A journal is stored where another one lay. -/
theorem moved {b n c n0 c0 : Nat} {a a0 : Option Addr} {vW vG vR uW uG uR : Value} {X J : JN} {W : World} (hx : JRow W (.slice a n c) vW vG vR X) (hj : Box b [.slice a0 n0 c0, uW, .int .i64 J.s, .int .i64 J.h, .int .i64 J.u, uG, uR] W) (hw : X.ws = []) :
    JB b (.slice a n c) vW vG vR X (((((((W.setCell ⟨b, 0, none⟩ (.slice a n c)).setCell ⟨b, 1, none⟩ vW).setCell ⟨b, 2, none⟩ (.int .i64 X.s)).setCell ⟨b, 3, none⟩ (.int .i64 X.h)).setCell ⟨b, 4, none⟩ (.int .i64 X.u)).setCell ⟨b, 5, none⟩ vG).setCell ⟨b, 6, none⟩ vR) :=
  have hb := (hj.2 0 _ rfl).1
  ⟨hj.st7 _ _ _ _ _ _ _, ⟨srow_st7 hx.rS hb _ _ _ _ _ _, by rw [hw]; exact wrow_st7 (wrow_nil hw hx.rW) _ _ _ _ _ _, srow_st7 hx.rG hb _ _ _ _ _ _, srow_st7 hx.rR hb _ _ _ _ _ _⟩⟩
/-- A journal that a call returned is stored into its block: what else there is. -/
theorem stored_all {w Y : World} {b b11 n c : Nat} {a : Option Addr} {vW vG vR : Value} {X J : JN} {aJ : Option Addr} {nJ cJ : Nat} {uW uG uR : Value} (hx : JRow Y (.slice a n c) vW vG vR X) (hw : X.ws = []) (hz : Box b11 z7 Y) (hj : JB b (.slice aJ nJ cJ) uW uG uR J Y) (hjw : J.ws = []) (hne : b ≠ b11) (hb : Below w.heap.size w Y) (hle : w.heap.size ≤ b11) :
    JB b11 (.slice a n c) vW vG vR X (((((((Y.setCell ⟨b11, 0, none⟩ (.slice a n c)).setCell ⟨b11, 1, none⟩ vW).setCell ⟨b11, 2, none⟩ (.int .i64 X.s)).setCell ⟨b11, 3, none⟩ (.int .i64 X.h)).setCell ⟨b11, 4, none⟩ (.int .i64 X.u)).setCell ⟨b11, 5, none⟩ vG).setCell ⟨b11, 6, none⟩ vR) ∧ JB b (.slice aJ nJ cJ) uW uG uR J (((((((Y.setCell ⟨b11, 0, none⟩ (.slice a n c)).setCell ⟨b11, 1, none⟩ vW).setCell ⟨b11, 2, none⟩ (.int .i64 X.s)).setCell ⟨b11, 3, none⟩ (.int .i64 X.h)).setCell ⟨b11, 4, none⟩ (.int .i64 X.u)).setCell ⟨b11, 5, none⟩ vG).setCell ⟨b11, 6, none⟩ vR) ∧ Below w.heap.size w (((((((Y.setCell ⟨b11, 0, none⟩ (.slice a n c)).setCell ⟨b11, 1, none⟩ vW).setCell ⟨b11, 2, none⟩ (.int .i64 X.s)).setCell ⟨b11, 3, none⟩ (.int .i64 X.h)).setCell ⟨b11, 4, none⟩ (.int .i64 X.u)).setCell ⟨b11, 5, none⟩ vG).setCell ⟨b11, 6, none⟩ vR) ∧ ∀ v l, RowV Y v l → RowV (((((((Y.setCell ⟨b11, 0, none⟩ (.slice a n c)).setCell ⟨b11, 1, none⟩ vW).setCell ⟨b11, 2, none⟩ (.int .i64 X.s)).setCell ⟨b11, 3, none⟩ (.int .i64 X.h)).setCell ⟨b11, 4, none⟩ (.int .i64 X.u)).setCell ⟨b11, 5, none⟩ vG).setCell ⟨b11, 6, none⟩ vR) v l :=
  have hcell : Y.cell? ⟨b11, 0, none⟩ = some (.slice none 0 0) := (hz.2 0 _ rfl).1
  ⟨moved (J := ⟨[], [], 0, 0, 0, [], []⟩) hx hz hw, ⟨Box.other7 hj.1 hne _ _ _ _ _ _ _, ⟨srow_st7 hj.2.rS hcell _ _ _ _ _ _, by rw [hjw]; exact wrow_st7 (wrow_nil hjw hj.2.rW) _ _ _ _ _ _, srow_st7 hj.2.rG hcell _ _ _ _ _ _, srow_st7 hj.2.rR hcell _ _ _ _ _ _⟩⟩, below_st7 hb hle _ _ _ _ _ _ _,
    fun v l hv => by obtain ⟨a', n', c', e, hr⟩ := hv; exact ⟨a', n', c', e, srow_st7 hr hcell _ _ _ _ _ _⟩⟩
theorem instead_or {n s : Nat} {d : ByteArray} (h : d.size ≤ 3000) : insteadE n s d = 0 ∨ insteadE n s d = 7 := by
  unfold insteadE
  rw [if_neg (by omega)]
  by_cases c2 : roomN n < (frm d).length
  · rw [if_pos c2]; exact .inr rfl
  rw [if_neg c2]
  by_cases c3 : s = 1099511627776
  · rw [if_pos c3]; exact .inr rfl
  rw [if_neg c3]; exact .inl rfl
theorem may_next {ls : List ByteArray} {t : Jn.Told} {l l' : List ByteArray} {half fr : Nat} {bs : List UInt8} (h : Opens ls t l) (q : Seals ls t half fr bs l') {s hh u : Int} (hs : s = (t.seals : Int) + 1) (hh' : hh = (half : Int)) (hu : u = (fr : Int) + bs.length) :
    May ⟨sealedL ls t half fr bs, [], s, hh, u, [], l'⟩ (nextT t half fr bs.length) :=
  ⟨rfl, sealed_opens h q, by simp [nextT, hs], by simp [nextT, hh'], by simp [nextT, hu], (may_opened (sealed_opens h q)).wt⟩
theorem two_rows (W : World) (x : ByteArray) : Disk.SRow ((W.alloc (.cells #[.string x] 9)).alloc (.cells #[.string x] 9)).drew (.slice (some ⟨W.heap.size, 0, none⟩) 1 1) [x] ∧ Disk.SRow ((W.alloc (.cells #[.string x] 9)).alloc (.cells #[.string x] 9)).drew (.slice (some ⟨W.heap.size + 1, 0, none⟩) 1 1) [x] ∧ Below W.heap.size W ((W.alloc (.cells #[.string x] 9)).alloc (.cells #[.string x] 9)).drew := by
  have h1 := al W (.cells #[.string x] 9)
  have h2 := al (W.alloc (.cells #[.string x] 9)) (.cells #[.string x] 9)
  have h3 := (Below.refl ((W.alloc (.cells #[.string x] 9)).alloc (.cells #[.string x] 9)).heap.size ((W.alloc (.cells #[.string x] 9)).alloc (.cells #[.string x] 9))).drew
  have r2 := one_row (W.alloc (.cells #[.string x] 9)) x
  rw [World.size_alloc] at r2
  exact ⟨((one_row W x).below h2).below h3, r2.below h3, below_trans (below_trans h1 h2) h3⟩
theorem kind_two (k : Int) : ∃ (r : Int) (m : Nat), Int.tmod k 5 = r ∧ -5 < r ∧ r < 5 ∧ m < 5 ∧ (r + 5) % 5 = (m : Int) := by
  have h1 := Int.tmod_lt_of_pos k (show (0 : Int) < 5 by omega)
  have h2 := Int.lt_tmod_of_pos k (show (0 : Int) < 5 by omega)
  exact ⟨Int.tmod k 5, ((Int.tmod k 5 + 5) % 5).toNat, rfl, by omega, by omega, by omega, by omega⟩
theorem kind_mod (k : Int) : ∃ m : Nat, m < 5 ∧ Int.tmod (Int.tmod k 5 + 5) 5 = m ∧ -5 < Int.tmod k 5 ∧ Int.tmod k 5 < 5 := by
  have h1 := Int.tmod_lt_of_pos k (show (0 : Int) < 5 by omega)
  have h2 := Int.lt_tmod_of_pos k (show (0 : Int) < 5 by omega)
  have h3 := Int.tmod_lt_of_pos (Int.tmod k 5 + 5) (show (0 : Int) < 5 by omega)
  have h4 := Int.tmod_nonneg 5 (show 0 ≤ Int.tmod k 5 + 5 by omega)
  exact ⟨(Int.tmod (Int.tmod k 5 + 5) 5).toNat, by omega, by omega, by omega, by omega⟩

set_option maxRecDepth 100000 in
set_option maxHeartbeats 40000000 in
theorem walk0 (n : Int) (hn1 : -9223372036854775808 ≤ n) (hn2 : n ≤ 9223372036854775807) (v : Value) (w : World) (hA : ArgA w v) :
    Calls Try.prog 4 #[.int .i64 n, v] w (BoolB true w) := by
  obtain ⟨a, len, cap, rfl, hlc, hcap, hacts⟩ := hA
  have HACT := Lib.hid hacts
  clear hacts
  obtain ⟨m, hm1⟩ : ∃ m, Int.tmod n 20 = m := ⟨_, rfl⟩
  have hm2 : -20 < m := by have := Int.lt_tmod_of_pos n (show (0 : Int) < 20 by omega); omega
  have hm3 : m < 20 := by have := Int.tmod_lt_of_pos n (show (0 : Int) < 20 by omega); omega
  obtain ⟨q, hq1⟩ : ∃ q : Nat, (q : Int) = 8 + (m + 20) % 20 := ⟨(8 + (m + 20) % 20).toNat, by omega⟩
  have HQ := Lib.hid hq1
  have hq2 : 8 ≤ q ∧ q < 28 := by omega
  clear hq1
  go_enter Try.func4, Try.ntmps4
  go_upto_region 1 with (fail)
  go_cut [0] from 16 to 20 (fun v wx => v = .int .i64 (q : Int) ∧ w = wx)
  case first =>
    have hm5 : 0 ≤ m + 20 := by omega
    go_wp2_with fail
    go_meet
    exact ⟨congrArg (Value.int .i64) (by have := HQ.out; omega), rfl⟩
  case rest =>
  obtain ⟨rfl, rfl⟩ := hcut
  clear hm1 hm2 hm3 HQ
  have HFO := Lib.hid (Format_yes q (by omega) (by omega) w)
  go_wp2_with fail
  (with_reducible refine HFO.out.mono ?_)
  clear HFO
  rintro e V ⟨vS, vW, vG, vR, rfl, hS, hW, hG, hR, hx⟩
  have HR0 : Hid (JRow V vS vW vG vR ⟨formL q, [], 1, 0, 0, [], []⟩) := ⟨hS.1, hW.1, hG.1, hR.1⟩
  obtain ⟨aS, cS, rfl⟩ := hS.1.slice
  obtain ⟨aW, cW, rfl⟩ := hW.1.slice
  obtain ⟨aG, cG, rfl⟩ := hG.1.slice
  obtain ⟨aR, cR, rfl⟩ := hR.1.slice
  have HJ := Lib.hid (JB.made HR0.out)
  have HBO := Lib.hid (fun o => below_trans hx (al V o))
  have hwV := hx.size
  clear hS hW hG hR hx HR0
  unfold jv
  simp only [List.length_nil] at HJ ⊢
  try dsimp only at HJ
  go_upto_region 3 with (fail)
  generalize hV1 : V.alloc _ = V1 at HJ ⊢
  have HB1 : Hid (Below w.heap.size w V1) := by rw [← hV1]; exact HBO.out _
  clear hV1 HBO
  generalize V.heap.size = b at HJ hwV ⊢
  have HMF : Hid (May ⟨formL q, [], 1, 0, 0, [], []⟩ firstT) := may_opened (t := firstT) (form_opens (by omega) (by omega))
  have HST : Hid (Head w b V1) := ⟨aS, aW, aG, aR, _, _, _, _, cS, cW, cG, cR, ⟨formL q, [], 1, 0, 0, [], []⟩, firstT, HJ.out, HMF.out, HB1.out⟩
  clear HMF HB1 HJ hq2
  go_wp2_with fail
  go_loopw [30] (fun i wr => ∃ k : Nat, k ≤ len ∧ i = .int .i64 k ∧ Head w b wr) (fun i _ => len - (Go.RowKit.intOf i).toNat)
  case atStart => exact ⟨0, Nat.zero_le _, rfl, HST.out⟩
  case round =>
    clear HST
    obtain ⟨k, hk, rfl, hst⟩ := hrel
    have HST := Lib.hid hst
    clear hst
    by_cases hlt : k < len
    case neg =>
      obtain rfl : k = len := by omega
      obtain ⟨_, _, _, _, _, _, _, _, _, _, _, _, _, _, _, _, hb⟩ := HST.out
      have HB := Lib.hid hb
      clear hb HST
      go_wp2_with (go_at_call 8; refine (alive_any _).mono ?_; rintro e z ⟨rfl, hz⟩; have HZ := Lib.hid (below_trans HB.out hz); clear hz)
      go_ret
      exact ⟨rfl, HZ.out⟩
    by_cases h16 : 16 ≤ k
    case pos =>
      obtain ⟨_, _, _, _, _, _, _, _, _, _, _, _, _, _, _, _, hb⟩ := HST.out
      obtain ⟨gb, off, rfl, hgb, hact⟩ := HACT.out (by omega)
      obtain ⟨kd, d, lt, kp, tn, hd, hkd, hkp, a0, a1, a2, a3, a4⟩ := hact k hlt
      have e0 := (hb.cell (p := ⟨gb, off + k * 5, none⟩) hgb).trans a0
      have e1 := (hb.cell (p := ⟨gb, off + k * 5 + 1, none⟩) hgb).trans a1
      have e2 := (hb.cell (p := ⟨gb, off + k * 5 + 2, none⟩) hgb).trans a2
      have e3 := (hb.cell (p := ⟨gb, off + k * 5 + 3, none⟩) hgb).trans a3
      have e4 := (hb.cell (p := ⟨gb, off + k * 5 + 4, none⟩) hgb).trans a4
      have HB := Lib.hid hb
      clear hb HST a0 a1 a2 a3 a4 hact HACT
      have hkl : (k : Int) ≤ 9223372036854775807 := by omega
      go_wp2_with (go_at_call 8; refine (alive_any _).mono ?_; rintro e z ⟨rfl, hz⟩; have HZ := Lib.hid (below_trans (below_trans HB.out (al _ _)) hz); clear hz)
      go_ret
      exact ⟨rfl, HZ.out⟩
    obtain ⟨gb, off, rfl, hgb, hact⟩ := HACT.out (by omega)
    obtain ⟨kd, d, lt, kp, tn, hd, hkd, hkp, a0, a1, a2, a3, a4⟩ := hact k hlt
    obtain ⟨aS, aW, aG, aR, nS, nW, nG, nR, cS, cW, cG, cR, J, t, hJ, hM, hb⟩ := HST.out
    have e0 := (hb.cell (p := ⟨gb, off + k * 5, none⟩) hgb).trans a0
    have e1 := (hb.cell (p := ⟨gb, off + k * 5 + 1, none⟩) hgb).trans a1
    have e2 := (hb.cell (p := ⟨gb, off + k * 5 + 2, none⟩) hgb).trans a2
    have e3 := (hb.cell (p := ⟨gb, off + k * 5 + 3, none⟩) hgb).trans a3
    have e4 := (hb.cell (p := ⟨gb, off + k * 5 + 4, none⟩) hgb).trans a4
    have HB := Lib.hid hb
    have HJ := Lib.hid hJ
    have HM := Lib.hid hM
    clear hb HST a0 a1 a2 a3 a4 hact HACT hJ hM
    obtain ⟨p, hp, hpd, hp2⟩ : ∃ p : Nat, min (d.size : Int) 150 = p ∧ p ≤ d.size ∧ p ≤ 150 := ⟨min d.size 150, by omega, by omega, by omega⟩
    have i0 : (0 : Int) ≤ (p : Int) := by omega
    have i1 : (p : Int) ≤ (d.size : Int) := by omega
    have i2 : ¬ (p : Int) < 0 := by omega
    have i3 : ¬ (d.size : Int) < (p : Int) := by omega
    go_upto_region 10 with (fail)
    have HA4 := Lib.hid (Box.made wr [.int .i64 kd, .string (d.extract 0 p), .bool lt, .int .u64 kp, .int .i64 tn] 44)
    have HJ4 := Lib.hid (HJ.out.below (al wr (.cells #[.int .i64 kd, .string (d.extract 0 p), .bool lt, .int .u64 kp, .int .i64 tn] 44)))
    have HB4 := Lib.hid (below_trans HB.out (al wr (.cells #[.int .i64 kd, .string (d.extract 0 p), .bool lt, .int .u64 kp, .int .i64 tn] 44)))
    have HBB : Hid (b < wr.heap.size) := HJ.out.1.1
    generalize hW4 : wr.alloc (.cells #[.int .i64 kd, .string (d.extract 0 p), .bool lt, .int .u64 kp, .int .i64 tn] 44) = W4 at HA4 HJ4 HB4 ⊢
    generalize wr.heap.size = ba at HA4 HBB ⊢
    have hdx : (d.extract 0 p).size ≤ 150 := by rw [ByteArray.size_extract]; omega
    generalize d.extract 0 p = x at HA4 hdx ⊢
    clear hW4 HJ HB e0 e1 e2 e3 e4 i0 i1 i2 i3 hp hpd hp2 hd
    have hlg : J.l.length ≤ 100000 ∧ J.g.length ≤ 1000 := ⟨(may_small HM.out).l1, (may_small HM.out).g1⟩
    go_cut [9, 10] from 45 to 53 (fun v9 v10 wx => v9 = .slice aR nR cR ∧ (∃ a n c, v10 = .slice a n c ∧ Disk.SRow wx v10 (J.l ++ J.g)) ∧ Below W4.heap.size W4 wx)
    case first =>
      refine wp_region_noPanic ?_
      refine wp_region_held_drew (S := fun W' => Below W4.heap.size W4 W') (by kernel_rfl) ((Below.refl _ _).drew) (fun hHeld => ?_)
      refine takeH 0 45 (.pointer (some ⟨b, 6, none⟩)) calm_np rfl rfl (by kernel_rfl) (by kernel_rfl) (by kernel_rfl) (by rfl) (fun W' hSw => by go_simp) hHeld ?_
      try simp only [Act.put, List.setIfInBounds_toArray, List.set_cons_zero, List.set_cons_succ]
      refine takeH 1 46 (.slice aR nR cR) calm_np rfl rfl (by kernel_rfl) (by kernel_rfl) (by kernel_rfl) (by rfl) (fun W' hSw => by have z6 := ((HJ4.out.below hSw).1.2 6 _ rfl).1; go_simp) hHeld ?_
      try simp only [Act.put, List.setIfInBounds_toArray, List.set_cons_zero, List.set_cons_succ]
      refine takeH 3 48 (.pointer (some ⟨b, 6, none⟩)) calm_np rfl rfl (by kernel_rfl) (by kernel_rfl) (by kernel_rfl) (by rfl) (fun W' hSw => by go_simp) hHeld ?_
      try simp only [Act.put, List.setIfInBounds_toArray, List.set_cons_zero, List.set_cons_succ]
      refine takeH 4 49 (.slice aR nR cR) calm_np rfl rfl (by kernel_rfl) (by kernel_rfl) (by kernel_rfl) (by rfl) (fun W' hSw => by have z6 := ((HJ4.out.below hSw).1.2 6 _ rfl).1; go_simp) hHeld ?_
      try simp only [Act.put, List.setIfInBounds_toArray, List.set_cons_zero, List.set_cons_succ]
      refine takeH 6 51 (.pointer (some ⟨b, 5, none⟩)) calm_np rfl rfl (by kernel_rfl) (by kernel_rfl) (by kernel_rfl) (by rfl) (fun W' hSw => by go_simp) hHeld ?_
      try simp only [Act.put, List.setIfInBounds_toArray, List.set_cons_zero, List.set_cons_succ]
      refine takeH 7 52 (.slice aG nG cG) calm_np rfl rfl (by kernel_rfl) (by kernel_rfl) (by kernel_rfl) (by rfl) (fun W' hSw => by have z5 := ((HJ4.out.below hSw).1.2 5 _ rfl).1; go_simp) hHeld ?_
      try simp only [Act.put, List.setIfInBounds_toArray, List.set_cons_zero, List.set_cons_succ]
      refine wpAnyH_ready (rs := [2]) (by kernel_rfl) (by simp) (AllReadyH.cons rfl (fun K hK => ?_) AllReadyH.nil)
      go_simp
      have hw0 : Below W4.heap.size W4 (W4.alloc (.cells #[] 9)).drew := below_trans (al W4 (.cells #[] 9)) ((Below.refl _ _).drew)
      have ho0 : OwnS W4.heap.size (.slice (some ⟨W4.heap.size, 0, none⟩) 0 0) [] (W4.alloc (.cells #[] 9)).drew := own_empty W4 rfl
      generalize (W4.alloc (.cells #[] 9)).drew = W8 at hw0 ho0 ⊢
      refine hK.out _ _ hw0 (fun hHeld => ?_)
      clear hK
      try simp only [Act.put, List.setIfInBounds_toArray, List.set_cons_zero, List.set_cons_succ]
      refine wpAnyH_ready (rs := [5]) (by kernel_rfl) (by simp) (AllReadyH.cons rfl (fun K hK => ?_) AllReadyH.nil)
      refine step_append_texts rfl 50 rfl _ _ rfl W4.heap.size _ [] rfl ho0 _ J.l rfl (HJ4.out.below hw0).2.rR (by simp) (by omega) hw0.size (fun v9 w9 ho9 hb9 => ?_)
      refine hK.out _ _ (hw0.trans hb9) (fun hHeld => ?_)
      clear hK
      try simp only [Act.put, List.setIfInBounds_toArray, List.set_cons_zero, List.set_cons_succ]
      refine wpAnyH_ready (rs := [8]) (by kernel_rfl) (by simp) (AllReadyH.cons rfl (fun K hK => ?_) AllReadyH.nil)
      refine step_append_texts rfl 53 rfl _ _ rfl W4.heap.size _ ([] ++ J.l) rfl ho9 _ J.g rfl (HJ4.out.below hHeld).2.rG (by simpa using hlg.1) (by omega) hHeld.size (fun v10 w10 ho10 hb10 => ?_)
      have hb11 : Below W4.heap.size W4 w10 := hHeld.trans hb10
      refine hK.out _ _ hb11 (fun hHeld => ?_)
      clear hK
      rw [List.nil_append] at ho10
      obtain ⟨a10, n10, c10, rfl⟩ := srow_slice ho10.row
      try simp only [Act.put, List.setIfInBounds_toArray, List.set_cons_zero, List.set_cons_succ]
      refine takeH 9 9 (.slice aR nR cR) calm_np rfl rfl (by kernel_rfl) (by kernel_rfl) (by kernel_rfl) (by rfl) (fun W' hSw => by go_simp) hHeld ?_
      try simp only [Act.put, List.setIfInBounds_toArray, List.set_cons_zero, List.set_cons_succ]
      refine takeH 10 10 (.slice a10 n10 c10) calm_np rfl rfl (by kernel_rfl) (by kernel_rfl) (by kernel_rfl) (by rfl) (fun W' hSw => by go_simp) hHeld ?_
      try simp only [Act.put, List.setIfInBounds_toArray, List.set_cons_zero, List.set_cons_succ]
      refine wpAnyH_done (by kernel_rfl) ?_ _
      refine NoPanic.normal ?_
      go_wp2_with fail
      go_meet
      exact ⟨rfl, ⟨a10, n10, c10, rfl, ho10.row⟩, hb11⟩
    case rest =>
    obtain ⟨rfl, ⟨aT, nT, cT, rfl, hrT⟩, hbT⟩ := hcut
    have HRT := Lib.hid hrT
    have HA5 := Lib.hid (HA4.out.below hbT)
    have HJ5 := Lib.hid (HJ4.out.below hbT)
    have HB5 := Lib.hid (below_trans HB4.out hbT)
    have HBA : Hid (ba < W4.heap.size) := HA4.out.1
    clear hrT hbT HA4 HJ4 HB4
    rename World => W5
    have HX6 := Lib.hid (Box.made W5 [.slice none 0 0, .slice none 0 0, .int .i64 0, .int .i64 0, .int .i64 0, .slice none 0 0, .slice none 0 0] 27)
    have hal := al W5 (.cells #[.slice none 0 0, .slice none 0 0, .int .i64 0, .int .i64 0, .int .i64 0, .slice none 0 0, .slice none 0 0] 27)
    have HA6 := Lib.hid (HA5.out.below hal)
    have HJ6 := Lib.hid (HJ5.out.below hal)
    have HB6 := Lib.hid (below_trans HB5.out hal)
    have HRV6 : Hid (RowV _ (.slice aT nT cT) (J.l ++ J.g)) := Lib.hid ⟨aT, nT, cT, rfl, HRT.out.below hal⟩
    have HLT : Hid (b < W5.heap.size ∧ ba < W5.heap.size) := ⟨HJ5.out.1.1, HA5.out.1⟩
    clear hal
    obtain ⟨r5, m5, hr5, hr1, hr2, hm5, hm6⟩ := kind_two kd
    go_upto_region 13 with (fail)
    generalize hW6 : W5.alloc _ = W6 at HX6 HA6 HJ6 HB6 HRV6 ⊢
    generalize W5.heap.size = b11 at HX6 HLT ⊢
    clear hW6 HA5 HJ5 HB5 HRT
    have HA6' := HA6.out
    obtain ⟨a0, f0⟩ := HA6'.2 0 _ rfl
    have hr3 : 0 ≤ r5 + 5 := by omega
    clear HA6'
    go_upto_block 2 with (fail)
    go_cut [9, 10, 12, 13, 14, 15] from 45 to 127 (fun v9 v10 v12 v13 v14 v15 wx => Done b11 v9 v10 v12 wx ∧ JB b (.slice aS nS cS) (.slice aW nW cW) (.slice aG nG cG) (.slice aR nR cR) J wx ∧ Below w.heap.size w wx)
    case first =>
      have HNE : Hid (b ≠ b11) := Lib.hid (by have := HLT.out.1; omega)
      have HWB : Hid (w.heap.size ≤ b11) := Lib.hid (by have := HLT.out.1; omega)
      obtain ⟨c0, c1, c2, c3, c4, c5, c6⟩ := HJ6.out.1.c7
      obtain ⟨a1, _⟩ := HA6.out.2 1 _ rfl
      obtain ⟨a2, _⟩ := HA6.out.2 2 _ rfl
      obtain ⟨a3, _⟩ := HA6.out.2 3 _ rfl
      obtain ⟨a4, _⟩ := HA6.out.2 4 _ rfl
      rcases (by omega : m5 = 0 ∨ m5 = 1 ∨ m5 = 2 ∨ m5 = 3 ∨ m5 = 4) with rfl | rfl | rfl | rfl | rfl
      · -- 0
        have hap := Append_any HJ6.out.2 HM.out x (by omega)
        have hk := wait_or (n := J.ls.length) (u := t.used) (g := J.g ++ [x]) (by intro dd hdd; rcases List.mem_append.1 hdd with hdd | hdd; exact (wait_zero.1 HM.out.wt).1 dd hdd; simp at hdd; subst hdd; omega)
        obtain ⟨kk, hkk⟩ : ∃ kk, kk = waitE J.ls.length t.used (J.g ++ [x]) := ⟨_, rfl⟩
        rw [← hkk] at hap hk
        have HKK := Lib.hid hkk
        have HAP := Lib.hid hap
        unfold jv at HAP
        clear hap hkk
        go_wp2_with fail
        (with_reducible refine HAP.out.mono ?_)
        clear HAP
        rintro e Y hA
        rcases hk with rfl | rfl
        case inr =>
          obtain ⟨vS, vW, vG, vR, rfl, hS, hW, hG, hR, hy⟩ := hA.2 (by decide)
          have HR3 : Hid (JRow Y vS vW vG vR ⟨[], [], 0, 0, 0, [], []⟩) := ⟨hS.1, hW.1, hG.1, hR.1⟩
          obtain ⟨aS3, nS3, cS3, rfl⟩ := srow_slice hS.1
          obtain ⟨aW3, nW3, cW3, rfl⟩ := wrow_slice hW.1
          obtain ⟨aG3, nG3, cG3, rfl⟩ := srow_slice hG.1
          obtain ⟨aR3, nR3, cR3, rfl⟩ := srow_slice hR.1
          have HF := Lib.hid (stored_all HR3.out rfl (HX6.out.below hy) (HJ6.out.below hy) HM.out.nw HNE.out (below_trans HB6.out hy) HWB.out)
          have HV := Lib.hid (fun v l (h : RowV W6 v l) => h.below hy)
          obtain ⟨q0, q1, q2, q3, q4, q5, q6⟩ := (HX6.out.below hy).c7
          obtain ⟨g0, g1, g2, g3, g4, g5, g6⟩ := (HX6.out.below hy).f7
          clear hS hW hG hR hy HR3 c0 c1 c2 c3 c4 c5 c6
          unfold jv
          go_wp2_with fail
          go_meet
          exact ⟨Or.inl rfl, HF.out.2.1, HF.out.2.2.1⟩
        obtain ⟨vS, vW, vG, vR, rfl, hS, hW, hG, hR, hy⟩ := hA.1 rfl
        have HR3 : Hid (JRow Y vS vW vG vR ⟨J.ls, [], J.s, J.h, J.u, J.g ++ [x], J.l⟩) := ⟨hS.1, hW.1, hG.1, hR.1⟩
        obtain ⟨aS3, nS3, cS3, rfl⟩ := srow_slice hS.1
        obtain ⟨aW3, nW3, cW3, rfl⟩ := wrow_slice hW.1
        obtain ⟨aG3, nG3, cG3, rfl⟩ := srow_slice hG.1
        obtain ⟨aR3, nR3, cR3, rfl⟩ := srow_slice hR.1
        have HF := Lib.hid (stored_all HR3.out rfl (HX6.out.below hy) (HJ6.out.below hy) HM.out.nw HNE.out (below_trans HB6.out hy) HWB.out)
        have HV := Lib.hid (fun v l (h : RowV W6 v l) => h.below hy)
        obtain ⟨q0, q1, q2, q3, q4, q5, q6⟩ := (HX6.out.below hy).c7
        obtain ⟨g0, g1, g2, g3, g4, g5, g6⟩ := (HX6.out.below hy).f7
        clear hS hW hG hR hy HR3 c0 c1 c2 c3 c4 c5 c6
        unfold jv
        have HMX : Hid (May ⟨J.ls, [], J.s, J.h, J.u, J.g ++ [x], J.l⟩ t) := ⟨rfl, HM.out.op, HM.out.hs, HM.out.hh, HM.out.hu, HKK.out.symm⟩
        have HLL : Hid (J.l.length ≤ 200000 ∧ J.l.length ≤ 200000) := Lib.hid (by omega)
        go_wp2_with fail
        go_meet
        exact ⟨Or.inr ⟨rfl, aS3, aW3, aG3, aR3, nS3, nW3, nG3, nR3, cS3, cW3, cG3, cR3, ⟨J.ls, [], J.s, J.h, J.u, J.g ++ [x], J.l⟩, t, J.l, J.l, HF.out.1, HMX.out, HF.out.2.2.2 _ _ (HV.out _ _ ⟨aR, nR, cR, rfl, HJ6.out.2.rR⟩), HF.out.2.2.2 _ _ (HV.out _ _ ⟨aR, nR, cR, rfl, HJ6.out.2.rR⟩), Or.inl rfl, HLL.out.1, HLL.out.2⟩, HF.out.2.1, HF.out.2.2.1⟩
      · -- 1
        have HCM := Lib.hid (Commit_any HJ6.out.2 HM.out)
        unfold jv at HCM
        go_wp2_with fail
        (with_reducible refine HCM.out.mono ?_)
        clear HCM
        rintro e Y hC
        by_cases hse : t.seals = 1099511627776
        case pos =>
          obtain ⟨vS, vW, vG, vR, rfl, hS, hW, hG, hR, hy⟩ := hC.1 hse
          have HR3 : Hid (JRow Y vS vW vG vR ⟨[], [], 0, 0, 0, [], []⟩) := ⟨hS.1, hW.1, hG.1, hR.1⟩
          obtain ⟨aS3, nS3, cS3, rfl⟩ := srow_slice hS.1
          obtain ⟨aW3, nW3, cW3, rfl⟩ := wrow_slice hW.1
          obtain ⟨aG3, nG3, cG3, rfl⟩ := srow_slice hG.1
          obtain ⟨aR3, nR3, cR3, rfl⟩ := srow_slice hR.1
          have HF := Lib.hid (stored_all HR3.out rfl (HX6.out.below hy) (HJ6.out.below hy) HM.out.nw HNE.out (below_trans HB6.out hy) HWB.out)
          have HV := Lib.hid (fun v l (h : RowV W6 v l) => h.below hy)
          obtain ⟨q0, q1, q2, q3, q4, q5, q6⟩ := (HX6.out.below hy).c7
          obtain ⟨g0, g1, g2, g3, g4, g5, g6⟩ := (HX6.out.below hy).f7
          clear hS hW hG hR hy HR3 c0 c1 c2 c3 c4 c5 c6
          unfold jv
          go_wp2_with fail
          go_meet
          exact ⟨Or.inl rfl, HF.out.2.1, HF.out.2.2.1⟩
        have hlt' : t.seals < 1099511627776 := by have := (opens_may HM.out.op).2.2.1; omega
        have HMX := Lib.hid (may_next HM.out.op (may_commit HM.out hlt') (s := (t.seals : Int) + 1) (hh := (t.half : Int)) (u := (t.used : Int) + (frms J.g).length) rfl rfl rfl)
        obtain ⟨vS, vW, vG, vR, rfl, hS, hW, hG, hR, hy⟩ := hC.2 hlt'
        have HR3 : Hid (JRow Y vS vW vG vR ⟨sealedL J.ls t t.half t.used (frms J.g), [], (t.seals : Int) + 1, (t.half : Int), (t.used : Int) + (frms J.g).length, [], J.l ++ J.g⟩) := ⟨hS.1, hW.1, hG.1, hR.1⟩
        obtain ⟨aS3, nS3, cS3, rfl⟩ := srow_slice hS.1
        obtain ⟨aW3, nW3, cW3, rfl⟩ := wrow_slice hW.1
        obtain ⟨aG3, nG3, cG3, rfl⟩ := srow_slice hG.1
        obtain ⟨aR3, nR3, cR3, rfl⟩ := srow_slice hR.1
        have HF := Lib.hid (stored_all HR3.out rfl (HX6.out.below hy) (HJ6.out.below hy) HM.out.nw HNE.out (below_trans HB6.out hy) HWB.out)
        have HV := Lib.hid (fun v l (h : RowV W6 v l) => h.below hy)
        obtain ⟨q0, q1, q2, q3, q4, q5, q6⟩ := (HX6.out.below hy).c7
        obtain ⟨g0, g1, g2, g3, g4, g5, g6⟩ := (HX6.out.below hy).f7
        clear hS hW hG hR hy HR3 c0 c1 c2 c3 c4 c5 c6
        unfold jv
        clear hC hse hlt'
        have HLL : Hid ((J.l ++ J.g).length ≤ 200000 ∧ (J.l ++ J.g).length ≤ 200000) := Lib.hid (by rw [List.length_append]; omega)
        go_wp2_with fail
        go_meet
        exact ⟨Or.inr ⟨rfl, aS3, aW3, aG3, aR3, nS3, nW3, nG3, nR3, cS3, cW3, cG3, cR3, _, _, (J.l ++ J.g), (J.l ++ J.g), HF.out.1, HMX.out, HF.out.2.2.2 _ _ (HV.out _ _ HRV6.out), HF.out.2.2.2 _ _ (HV.out _ _ HRV6.out), Or.inl rfl, HLL.out.1, HLL.out.2⟩, HF.out.2.1, HF.out.2.2.1⟩
      · -- 2
        have hio := instead_or (n := J.ls.length) (s := t.seals) (d := x) (by omega)
        have HCM := Lib.hid (Compact_any HJ6.out.2 HM.out x (by omega))
        unfold jv at HCM
        go_wp2_with fail
        (with_reducible refine HCM.out.mono ?_)
        clear HCM
        rintro e Y hC
        by_cases hk0 : insteadE J.ls.length t.seals x = 0
        case neg =>
          have hk7 := hio.resolve_left hk0
          have hC7 := hC.1 hk0
          rw [hk7] at hC7
          clear hC hk0 hk7 hio
          obtain ⟨vS, vW, vG, vR, rfl, hS, hW, hG, hR, hy⟩ := hC7
          have HR3 : Hid (JRow Y vS vW vG vR ⟨[], [], 0, 0, 0, [], []⟩) := ⟨hS.1, hW.1, hG.1, hR.1⟩
          obtain ⟨aS3, nS3, cS3, rfl⟩ := srow_slice hS.1
          obtain ⟨aW3, nW3, cW3, rfl⟩ := wrow_slice hW.1
          obtain ⟨aG3, nG3, cG3, rfl⟩ := srow_slice hG.1
          obtain ⟨aR3, nR3, cR3, rfl⟩ := srow_slice hR.1
          have HF := Lib.hid (stored_all HR3.out rfl (HX6.out.below hy) (HJ6.out.below hy) HM.out.nw HNE.out (below_trans HB6.out hy) HWB.out)
          have HAV := Lib.hid (HA6.out.below hy)
          obtain ⟨q0, q1, q2, q3, q4, q5, q6⟩ := (HX6.out.below hy).c7
          obtain ⟨g0, g1, g2, g3, g4, g5, g6⟩ := (HX6.out.below hy).f7
          clear hS hW hG hR hy HR3 c0 c1 c2 c3 c4 c5 c6
          unfold jv
          have HNA : Hid (ba ≠ b11) := Lib.hid (by have := HLT.out.2; omega)
          have HA7 := Lib.hid (Box.other7 (HAV.out) HNA.out (.slice aS3 nS3 cS3) (.slice aW3 nW3 cW3) (.int .i64 0) (.int .i64 0) (.int .i64 0) (.slice aG3 nG3 cG3) (.slice aR3 nR3 cR3))
          go_upto_region 33 with (fail)
          generalize hWf : World.setCell _ ⟨b11, 6, none⟩ _ = Wf at HF HA7 ⊢
          clear hWf q0 q1 q2 q3 q4 q5 q6 g0 g1 g2 g3 g4 g5 g6 HAV
          obtain ⟨z1, _⟩ := HA7.out.2 1 _ rfl
          have HTW := Lib.hid (two_rows Wf x)
          go_region_held3 (fun w' => w'.cell? ⟨ba, 1, none⟩ = some (.string x)) (go_keep) (fail)
          all_goals
            go_wp2_with fail
            go_meet
            exact ⟨Or.inl rfl, HF.out.2.1.below HTW.out.2.2, below_trans HF.out.2.2.1 HTW.out.2.2⟩
        have hC0 := hC.2 hk0
        have HMX := Lib.hid (may_next HM.out.op (may_compact HM.out hk0) (s := (t.seals : Int) + 1) (hh := 1 - (t.half : Int)) (u := ((frm x).length : Int)) rfl (half_cast (opens_may HM.out.op).1).symm (by simp))
        clear hC hk0 hio
        obtain ⟨vS, vW, vG, vR, rfl, hS, hW, hG, hR, hy⟩ := hC0
        have HR3 : Hid (JRow Y vS vW vG vR ⟨sealedL J.ls t (1 - t.half) 0 (frm x), [], (t.seals : Int) + 1, 1 - (t.half : Int), ((frm x).length : Int), [], [x]⟩) := ⟨hS.1, hW.1, hG.1, hR.1⟩
        obtain ⟨aS3, nS3, cS3, rfl⟩ := srow_slice hS.1
        obtain ⟨aW3, nW3, cW3, rfl⟩ := wrow_slice hW.1
        obtain ⟨aG3, nG3, cG3, rfl⟩ := srow_slice hG.1
        obtain ⟨aR3, nR3, cR3, rfl⟩ := srow_slice hR.1
        have HF := Lib.hid (stored_all HR3.out rfl (HX6.out.below hy) (HJ6.out.below hy) HM.out.nw HNE.out (below_trans HB6.out hy) HWB.out)
        have HAV := Lib.hid (HA6.out.below hy)
        obtain ⟨q0, q1, q2, q3, q4, q5, q6⟩ := (HX6.out.below hy).c7
        obtain ⟨g0, g1, g2, g3, g4, g5, g6⟩ := (HX6.out.below hy).f7
        clear hS hW hG hR hy HR3 c0 c1 c2 c3 c4 c5 c6
        unfold jv
        have HNA : Hid (ba ≠ b11) := Lib.hid (by have := HLT.out.2; omega)
        have HA7 := Lib.hid (Box.other7 (HAV.out) HNA.out (.slice aS3 nS3 cS3) (.slice aW3 nW3 cW3) (.int .i64 ((t.seals : Int) + 1)) (.int .i64 (1 - (t.half : Int))) (.int .i64 ((frm x).length : Int)) (.slice aG3 nG3 cG3) (.slice aR3 nR3 cR3))
        generalize ((frm x).length : Int) = lx at HF HA7 HMX ⊢
        generalize ((t.seals : Int) + 1) = sx at HF HA7 HMX ⊢
        generalize (1 - (t.half : Int)) = hx at HF HA7 HMX ⊢
        dsimp only at HF
        go_upto_region 33 with (fail)
        generalize hWf : World.setCell _ ⟨b11, 6, none⟩ _ = Wf at HF HA7 ⊢
        clear hWf q0 q1 q2 q3 q4 q5 q6 g0 g1 g2 g3 g4 g5 g6 HAV
        obtain ⟨z1, _⟩ := HA7.out.2 1 _ rfl
        have HTW := Lib.hid (two_rows Wf x)
        go_region_held3 (fun w' => w'.cell? ⟨ba, 1, none⟩ = some (.string x)) (go_keep) (fail)
        all_goals
          go_wp2_with fail
          go_meet
          first
            | exact ⟨Or.inr ⟨rfl, aS3, aW3, aG3, aR3, nS3, nW3, nG3, nR3, cS3, cW3, cG3, cR3, _, _, [x], [x], HF.out.1.below HTW.out.2.2, HMX.out, ⟨_, _, _, rfl, HTW.out.1⟩, ⟨_, _, _, rfl, HTW.out.2.1⟩, Or.inl rfl, by simp, by simp⟩, HF.out.2.1.below HTW.out.2.2, below_trans HF.out.2.2.1 HTW.out.2.2⟩
            | exact ⟨Or.inr ⟨rfl, aS3, aW3, aG3, aR3, nS3, nW3, nG3, nR3, cS3, cW3, cG3, cR3, _, _, [x], [x], HF.out.1.below HTW.out.2.2, HMX.out, ⟨_, _, _, rfl, HTW.out.2.1⟩, ⟨_, _, _, rfl, HTW.out.1⟩, Or.inl rfl, by simp, by simp⟩, HF.out.2.1.below HTW.out.2.2, below_trans HF.out.2.2.1 HTW.out.2.2⟩
            | fail
      · -- 3
        rcases lt with _ | _
        · -- not late
          go_upto_region 20 with (fail)
          have hbW : Below W6.heap.size W6 W6 := Below.refl _ _
          have HJb := Lib.hid (HJ6.out.below hbW)
          have HBb := Lib.hid (below_trans HB6.out hbW)
          have HXb := Lib.hid (HX6.out.below hbW)
          have HAb := Lib.hid (HA6.out.below hbW)
          have HV9 : Hid (RowV W6 (.slice aR nR cR) J.l) := Lib.hid ⟨aR, nR, cR, rfl, HJb.out.2.rR⟩
          obtain ⟨L10, hL10⟩ : ∃ L, L = J.l := ⟨_, rfl⟩
          have HV10 : Hid (RowV W6 (.slice aR nR cR) L10) := Lib.hid (by rw [hL10]; exact ⟨aR, nR, cR, rfl, HJb.out.2.rR⟩)
          have HLL : Hid (L10.length ≤ 200000) := Lib.hid (by rw [hL10]; omega)
          have HL10 := Lib.hid hL10
          clear hL10 hbW c0 c1 c2 c3 c4 c5 c6 a1 a2 a3 a4
          have HAS : Hid ((⟨#[]⟩ : ByteArray).size ≤ 1000000) := Lib.hid (by decide)
          have HAS3 : Hid ((⟨#[]⟩ : ByteArray).size ≤ 3000) := Lib.hid (by decide)
          clear HJ6 HB6 HX6 HA6 HRV6
          obtain ⟨c0, c1, c2, c3, c4, c5, c6⟩ := HJb.out.1.c7
          obtain ⟨a1, _⟩ := HAb.out.2 1 _ rfl
          obtain ⟨a2, _⟩ := HAb.out.2 2 _ rfl
          obtain ⟨a3, _⟩ := HAb.out.2 3 _ rfl
          obtain ⟨a4, _⟩ := HAb.out.2 4 _ rfl
          have HCR := Lib.hid (Crash_all HJb.out.2 (may_small HM.out) (⟨#[]⟩ : ByteArray) HAS.out false kp hkp tn)
          unfold jv at HCR
          go_wp2_with fail
          (with_reducible refine HCR.out.mono ?_)
          clear HCR
          rintro e Y hO
          rcases hO with ⟨kk, hk, hE⟩ | ⟨t1, D, t2, l', hm1, hop, hor, hE⟩
          · have hk' : kk = 7 := by
              rcases hk with ⟨_, h⟩ | ⟨_, h⟩ | h
              · exact absurd HM.out (h t)
              · have := HAS3.out; omega
              · exact h
            subst hk'
            obtain ⟨uS, uW, rfl, hS, hW, hy⟩ := hE
            obtain ⟨aD, nD, cD, rfl⟩ := srow_slice hS.1
            obtain ⟨aE, nE, cE, rfl⟩ := wrow_slice hW.1
            have HSTo := Lib.hid (fun o => (show Head w b (Y.alloc o) from ⟨aS, aW, aG, aR, nS, nW, nG, nR, cS, cW, cG, cR, J, t, (HJb.out.below hy).below (al Y o), HM.out, below_trans (below_trans HBb.out hy) (al Y o)⟩))
            clear hk hS hW hy c0 c1 c2 c3 c4 c5 c6 a1 a2 a3 a4
            go_wp2_with fail
            go_roundw
            case rel => exact ⟨k + 1, by omega, by go_num, HSTo.out _⟩
            case measure => simp [Go.RowKit.intOf]; omega
          · obtain ⟨uS, uW, rfl, hS, hW, hy⟩ := hE
            obtain ⟨aD, nD, cD, rfl⟩ := srow_slice hS.1
            obtain ⟨aE, nE, cE, rfl⟩ := wrow_slice hW.1
            have hyo := below_trans hy (al Y (.cells #[.slice aD nD cD, .slice aE nE cE] 25))
            have HDS := Lib.hid (hS.1.below (al Y (.cells #[.slice aD nD cD, .slice aE nE cE] 25)))
            have HDW := Lib.hid (hW.1.below (al Y (.cells #[.slice aD nD cD, .slice aE nE cE] 25)))
            have HJc := Lib.hid (HJb.out.below hyo)
            have HBc := Lib.hid (below_trans HBb.out hyo)
            have HXc := Lib.hid (HXb.out.below hyo)
            have HV9c := Lib.hid (HV9.out.below hyo)
            have HV10c := Lib.hid (HV10.out.below hyo)
            have HDB := Lib.hid (Box.made Y [.slice aD nD cD, .slice aE nE cE] 25)
            have HOP := Lib.hid hop
            have HLO : Hid (l' = J.l ∨ l' = L10) := Lib.hid (by
              rcases hor with h | ⟨h, _⟩; exact .inl h; cases h)
            clear hS hW hy hyo hop hor hm1 c0 c1 c2 c3 c4 c5 c6 a1 a2 a3 a4 HJb HBb HXb HV9 HV10
            have HOE := Lib.hid (Open_yes HDS.out HDW.out HOP.out)
            go_upto_region 24 with (fail)
            generalize hYc : Y.alloc _ = Yc at HDS HDW HJc HBc HXc HV9c HV10c HOE HDB ⊢
            clear hYc
            obtain ⟨d0, d1⟩ := HDB.out.c2
            go_wp2_with fail
            (with_reducible refine HOE.out.mono ?_)
            clear HOE
            rintro e Z hJE
            obtain ⟨vS, vW, vG, vR, rfl, hS, hW, hG, hR, hy⟩ := hJE
            have HR3 : Hid (JRow Z vS vW vG vR ⟨D, [], t2.seals, t2.half, t2.used, [], l'⟩) := ⟨hS.1, hW.1, hG.1, hR.1⟩
            obtain ⟨aS3, nS3, cS3, rfl⟩ := srow_slice hS.1
            obtain ⟨aW3, nW3, cW3, rfl⟩ := wrow_slice hW.1
            obtain ⟨aG3, nG3, cG3, rfl⟩ := srow_slice hG.1
            obtain ⟨aR3, nR3, cR3, rfl⟩ := srow_slice hR.1
            have HF := Lib.hid (stored_all HR3.out rfl (HXc.out.below hy) (HJc.out.below hy) HM.out.nw HNE.out (below_trans HBc.out hy) HWB.out)
            have HV9d := Lib.hid (HF.out.2.2.2 _ _ (HV9c.out.below hy))
            have HV10d := Lib.hid (HF.out.2.2.2 _ _ (HV10c.out.below hy))
            obtain ⟨q0, q1, q2, q3, q4, q5, q6⟩ := (HXc.out.below hy).c7
            obtain ⟨g0, g1, g2, g3, g4, g5, g6⟩ := (HXc.out.below hy).f7
            clear hS hW hG hR hy HR3 d0 d1 HDB
            unfold jv
            try dsimp only at HF HV9d HV10d
            have HMX := Lib.hid (may_opened HOP.out)
            go_wp2_with fail
            go_meet
            exact ⟨Or.inr ⟨rfl, aS3, aW3, aG3, aR3, nS3, nW3, nG3, nR3, cS3, cW3, cG3, cR3, _, _, J.l, L10, HF.out.1, HMX.out, HV9d.out, HV10d.out, HLO.out, by omega, HLL.out⟩, HF.out.2.1, HF.out.2.2.1⟩
        · -- late
          go_upto_region 20 with (fail)
          have hbW : Below W6.heap.size W6 W6 := Below.refl _ _
          have HJb := Lib.hid (HJ6.out.below hbW)
          have HBb := Lib.hid (below_trans HB6.out hbW)
          have HXb := Lib.hid (HX6.out.below hbW)
          have HAb := Lib.hid (HA6.out.below hbW)
          have HV9 : Hid (RowV W6 (.slice aR nR cR) J.l) := Lib.hid ⟨aR, nR, cR, rfl, HJb.out.2.rR⟩
          obtain ⟨L10, hL10⟩ : ∃ L, L = J.l ++ J.g := ⟨_, rfl⟩
          have HV10 : Hid (RowV W6 (.slice aT nT cT) L10) := Lib.hid (by rw [hL10]; exact HRV6.out)
          have HLL : Hid (L10.length ≤ 200000) := Lib.hid (by rw [hL10]; rw [List.length_append]; omega)
          have HL10 := Lib.hid hL10
          clear hL10 hbW c0 c1 c2 c3 c4 c5 c6 a1 a2 a3 a4
          have HAS : Hid ((⟨#[]⟩ : ByteArray).size ≤ 1000000) := Lib.hid (by decide)
          have HAS3 : Hid ((⟨#[]⟩ : ByteArray).size ≤ 3000) := Lib.hid (by decide)
          clear HJ6 HB6 HX6 HA6 HRV6
          obtain ⟨c0, c1, c2, c3, c4, c5, c6⟩ := HJb.out.1.c7
          obtain ⟨a1, _⟩ := HAb.out.2 1 _ rfl
          obtain ⟨a2, _⟩ := HAb.out.2 2 _ rfl
          obtain ⟨a3, _⟩ := HAb.out.2 3 _ rfl
          obtain ⟨a4, _⟩ := HAb.out.2 4 _ rfl
          have HCR := Lib.hid (Crash_all HJb.out.2 (may_small HM.out) (⟨#[]⟩ : ByteArray) HAS.out true kp hkp tn)
          unfold jv at HCR
          go_wp2_with fail
          (with_reducible refine HCR.out.mono ?_)
          clear HCR
          rintro e Y hO
          rcases hO with ⟨kk, hk, hE⟩ | ⟨t1, D, t2, l', hm1, hop, hor, hE⟩
          · have hk' : kk = 7 := by
              rcases hk with ⟨_, h⟩ | ⟨_, h⟩ | h
              · exact absurd HM.out (h t)
              · have := HAS3.out; omega
              · exact h
            subst hk'
            obtain ⟨uS, uW, rfl, hS, hW, hy⟩ := hE
            obtain ⟨aD, nD, cD, rfl⟩ := srow_slice hS.1
            obtain ⟨aE, nE, cE, rfl⟩ := wrow_slice hW.1
            have HSTo := Lib.hid (fun o => (show Head w b (Y.alloc o) from ⟨aS, aW, aG, aR, nS, nW, nG, nR, cS, cW, cG, cR, J, t, (HJb.out.below hy).below (al Y o), HM.out, below_trans (below_trans HBb.out hy) (al Y o)⟩))
            clear hk hS hW hy c0 c1 c2 c3 c4 c5 c6 a1 a2 a3 a4
            go_wp2_with fail
            go_roundw
            case rel => exact ⟨k + 1, by omega, by go_num, HSTo.out _⟩
            case measure => simp [Go.RowKit.intOf]; omega
          · obtain ⟨uS, uW, rfl, hS, hW, hy⟩ := hE
            obtain ⟨aD, nD, cD, rfl⟩ := srow_slice hS.1
            obtain ⟨aE, nE, cE, rfl⟩ := wrow_slice hW.1
            have hyo := below_trans hy (al Y (.cells #[.slice aD nD cD, .slice aE nE cE] 25))
            have HDS := Lib.hid (hS.1.below (al Y (.cells #[.slice aD nD cD, .slice aE nE cE] 25)))
            have HDW := Lib.hid (hW.1.below (al Y (.cells #[.slice aD nD cD, .slice aE nE cE] 25)))
            have HJc := Lib.hid (HJb.out.below hyo)
            have HBc := Lib.hid (below_trans HBb.out hyo)
            have HXc := Lib.hid (HXb.out.below hyo)
            have HV9c := Lib.hid (HV9.out.below hyo)
            have HV10c := Lib.hid (HV10.out.below hyo)
            have HDB := Lib.hid (Box.made Y [.slice aD nD cD, .slice aE nE cE] 25)
            have HOP := Lib.hid hop
            have HLO : Hid (l' = J.l ∨ l' = L10) := Lib.hid (by
              rcases hor with h | ⟨_, h⟩; exact .inl h; rw [thenL_none (by decide)] at h; rw [HL10.out]; exact .inr h)
            clear hS hW hy hyo hop hor hm1 c0 c1 c2 c3 c4 c5 c6 a1 a2 a3 a4 HJb HBb HXb HV9 HV10
            have HOE := Lib.hid (Open_yes HDS.out HDW.out HOP.out)
            go_upto_region 24 with (fail)
            generalize hYc : Y.alloc _ = Yc at HDS HDW HJc HBc HXc HV9c HV10c HOE HDB ⊢
            clear hYc
            obtain ⟨d0, d1⟩ := HDB.out.c2
            go_wp2_with fail
            (with_reducible refine HOE.out.mono ?_)
            clear HOE
            rintro e Z hJE
            obtain ⟨vS, vW, vG, vR, rfl, hS, hW, hG, hR, hy⟩ := hJE
            have HR3 : Hid (JRow Z vS vW vG vR ⟨D, [], t2.seals, t2.half, t2.used, [], l'⟩) := ⟨hS.1, hW.1, hG.1, hR.1⟩
            obtain ⟨aS3, nS3, cS3, rfl⟩ := srow_slice hS.1
            obtain ⟨aW3, nW3, cW3, rfl⟩ := wrow_slice hW.1
            obtain ⟨aG3, nG3, cG3, rfl⟩ := srow_slice hG.1
            obtain ⟨aR3, nR3, cR3, rfl⟩ := srow_slice hR.1
            have HF := Lib.hid (stored_all HR3.out rfl (HXc.out.below hy) (HJc.out.below hy) HM.out.nw HNE.out (below_trans HBc.out hy) HWB.out)
            have HV9d := Lib.hid (HF.out.2.2.2 _ _ (HV9c.out.below hy))
            have HV10d := Lib.hid (HF.out.2.2.2 _ _ (HV10c.out.below hy))
            obtain ⟨q0, q1, q2, q3, q4, q5, q6⟩ := (HXc.out.below hy).c7
            obtain ⟨g0, g1, g2, g3, g4, g5, g6⟩ := (HXc.out.below hy).f7
            clear hS hW hG hR hy HR3 d0 d1 HDB
            unfold jv
            try dsimp only at HF HV9d HV10d
            have HMX := Lib.hid (may_opened HOP.out)
            go_wp2_with fail
            go_meet
            exact ⟨Or.inr ⟨rfl, aS3, aW3, aG3, aR3, nS3, nW3, nG3, nR3, cS3, cW3, cG3, cR3, _, _, J.l, L10, HF.out.1, HMX.out, HV9d.out, HV10d.out, HLO.out, by omega, HLL.out⟩, HF.out.2.1, HF.out.2.2.1⟩
      · -- 4
        have hba := HA6.out.1
        rcases lt with _ | _
        · -- not late
          go_upto_region 20 with (fail)
          have hall : ((⟨#[119]⟩ : ByteArray) ++ x).size ≤ 151 := by rw [ByteArray.size_append]; show 1 + x.size ≤ 151; omega
          generalize ((⟨#[119]⟩ : ByteArray) ++ x) = all at hall ⊢
          have hbW : Below W6.heap.size W6 (W6.alloc (.cells #[.string all] 9)) := al _ _
          have HJb := Lib.hid (HJ6.out.below hbW)
          have HBb := Lib.hid (below_trans HB6.out hbW)
          have HXb := Lib.hid (HX6.out.below hbW)
          have HAb := Lib.hid (HA6.out.below hbW)
          have HV9 : Hid (RowV (W6.alloc (.cells #[.string all] 9)) (.slice aR nR cR) J.l) := Lib.hid ⟨aR, nR, cR, rfl, HJb.out.2.rR⟩
          obtain ⟨L10, hL10⟩ : ∃ L, L = J.l := ⟨_, rfl⟩
          have HV10 : Hid (RowV (W6.alloc (.cells #[.string all] 9)) (.slice aR nR cR) L10) := Lib.hid (by rw [hL10]; exact ⟨aR, nR, cR, rfl, HJb.out.2.rR⟩)
          have HLL : Hid (L10.length ≤ 200000) := Lib.hid (by rw [hL10]; omega)
          have HL10 := Lib.hid hL10
          clear hL10 hbW c0 c1 c2 c3 c4 c5 c6 a1 a2 a3 a4
          have HAS : Hid (all.size ≤ 1000000) := Lib.hid (by omega)
          have HAS3 : Hid (all.size ≤ 3000) := Lib.hid (by omega)
          generalize (W6.alloc (.cells #[.string all] 9)) = Wb at HJb HBb HXb HAb HV9 HV10 ⊢
          clear HJ6 HB6 HX6 HA6 HRV6
          obtain ⟨c0, c1, c2, c3, c4, c5, c6⟩ := HJb.out.1.c7
          obtain ⟨a1, _⟩ := HAb.out.2 1 _ rfl
          obtain ⟨a2, _⟩ := HAb.out.2 2 _ rfl
          obtain ⟨a3, _⟩ := HAb.out.2 3 _ rfl
          obtain ⟨a4, _⟩ := HAb.out.2 4 _ rfl
          have HCR := Lib.hid (Crash_all HJb.out.2 (may_small HM.out) all HAS.out false kp hkp tn)
          unfold jv at HCR
          go_wp2_with fail
          (with_reducible refine HCR.out.mono ?_)
          clear HCR
          rintro e Y hO
          rcases hO with ⟨kk, hk, hE⟩ | ⟨t1, D, t2, l', hm1, hop, hor, hE⟩
          · have hk' : kk = 7 := by
              rcases hk with ⟨_, h⟩ | ⟨_, h⟩ | h
              · exact absurd HM.out (h t)
              · have := HAS3.out; omega
              · exact h
            subst hk'
            obtain ⟨uS, uW, rfl, hS, hW, hy⟩ := hE
            obtain ⟨aD, nD, cD, rfl⟩ := srow_slice hS.1
            obtain ⟨aE, nE, cE, rfl⟩ := wrow_slice hW.1
            have HSTo := Lib.hid (fun o => (show Head w b (Y.alloc o) from ⟨aS, aW, aG, aR, nS, nW, nG, nR, cS, cW, cG, cR, J, t, (HJb.out.below hy).below (al Y o), HM.out, below_trans (below_trans HBb.out hy) (al Y o)⟩))
            clear hk hS hW hy c0 c1 c2 c3 c4 c5 c6 a1 a2 a3 a4
            go_wp2_with fail
            go_roundw
            case rel => exact ⟨k + 1, by omega, by go_num, HSTo.out _⟩
            case measure => simp [Go.RowKit.intOf]; omega
          · obtain ⟨uS, uW, rfl, hS, hW, hy⟩ := hE
            obtain ⟨aD, nD, cD, rfl⟩ := srow_slice hS.1
            obtain ⟨aE, nE, cE, rfl⟩ := wrow_slice hW.1
            have hyo := below_trans hy (al Y (.cells #[.slice aD nD cD, .slice aE nE cE] 25))
            have HDS := Lib.hid (hS.1.below (al Y (.cells #[.slice aD nD cD, .slice aE nE cE] 25)))
            have HDW := Lib.hid (hW.1.below (al Y (.cells #[.slice aD nD cD, .slice aE nE cE] 25)))
            have HJc := Lib.hid (HJb.out.below hyo)
            have HBc := Lib.hid (below_trans HBb.out hyo)
            have HXc := Lib.hid (HXb.out.below hyo)
            have HV9c := Lib.hid (HV9.out.below hyo)
            have HV10c := Lib.hid (HV10.out.below hyo)
            have HDB := Lib.hid (Box.made Y [.slice aD nD cD, .slice aE nE cE] 25)
            have HOP := Lib.hid hop
            have HLO : Hid (l' = J.l ∨ l' = L10) := Lib.hid (by
              rcases hor with h | ⟨h, _⟩; exact .inl h; cases h)
            clear hS hW hy hyo hop hor hm1 c0 c1 c2 c3 c4 c5 c6 a1 a2 a3 a4 HJb HBb HXb HV9 HV10
            have HOE := Lib.hid (Open_yes HDS.out HDW.out HOP.out)
            go_upto_region 24 with (fail)
            generalize hYc : Y.alloc _ = Yc at HDS HDW HJc HBc HXc HV9c HV10c HOE HDB ⊢
            clear hYc
            obtain ⟨d0, d1⟩ := HDB.out.c2
            go_wp2_with fail
            (with_reducible refine HOE.out.mono ?_)
            clear HOE
            rintro e Z hJE
            obtain ⟨vS, vW, vG, vR, rfl, hS, hW, hG, hR, hy⟩ := hJE
            have HR3 : Hid (JRow Z vS vW vG vR ⟨D, [], t2.seals, t2.half, t2.used, [], l'⟩) := ⟨hS.1, hW.1, hG.1, hR.1⟩
            obtain ⟨aS3, nS3, cS3, rfl⟩ := srow_slice hS.1
            obtain ⟨aW3, nW3, cW3, rfl⟩ := wrow_slice hW.1
            obtain ⟨aG3, nG3, cG3, rfl⟩ := srow_slice hG.1
            obtain ⟨aR3, nR3, cR3, rfl⟩ := srow_slice hR.1
            have HF := Lib.hid (stored_all HR3.out rfl (HXc.out.below hy) (HJc.out.below hy) HM.out.nw HNE.out (below_trans HBc.out hy) HWB.out)
            have HV9d := Lib.hid (HF.out.2.2.2 _ _ (HV9c.out.below hy))
            have HV10d := Lib.hid (HF.out.2.2.2 _ _ (HV10c.out.below hy))
            obtain ⟨q0, q1, q2, q3, q4, q5, q6⟩ := (HXc.out.below hy).c7
            obtain ⟨g0, g1, g2, g3, g4, g5, g6⟩ := (HXc.out.below hy).f7
            clear hS hW hG hR hy HR3 d0 d1 HDB
            unfold jv
            try dsimp only at HF HV9d HV10d
            have HMX := Lib.hid (may_opened HOP.out)
            go_wp2_with fail
            go_meet
            exact ⟨Or.inr ⟨rfl, aS3, aW3, aG3, aR3, nS3, nW3, nG3, nR3, cS3, cW3, cG3, cR3, _, _, J.l, L10, HF.out.1, HMX.out, HV9d.out, HV10d.out, HLO.out, by omega, HLL.out⟩, HF.out.2.1, HF.out.2.2.1⟩
        · -- late
          go_upto_region 20 with (fail)
          have hall : ((⟨#[119]⟩ : ByteArray) ++ x).size ≤ 151 ∧ ¬ ((⟨#[119]⟩ : ByteArray) ++ x).size = 0 := by rw [ByteArray.size_append]; show 1 + x.size ≤ 151 ∧ ¬ 1 + x.size = 0; omega
          generalize ((⟨#[119]⟩ : ByteArray) ++ x) = all at hall ⊢
          have hbW : Below W6.heap.size W6 (W6.alloc (.cells #[.string all] 9)) := al _ _
          have HJb := Lib.hid (HJ6.out.below hbW)
          have HBb := Lib.hid (below_trans HB6.out hbW)
          have HXb := Lib.hid (HX6.out.below hbW)
          have HAb := Lib.hid (HA6.out.below hbW)
          have HV9 : Hid (RowV (W6.alloc (.cells #[.string all] 9)) (.slice aR nR cR) J.l) := Lib.hid ⟨aR, nR, cR, rfl, HJb.out.2.rR⟩
          obtain ⟨L10, hL10⟩ : ∃ L, L = [all] := ⟨_, rfl⟩
          have HV10 : Hid (RowV (W6.alloc (.cells #[.string all] 9)) (.slice (some ⟨W6.heap.size, 0, none⟩) 1 1) L10) := Lib.hid (by rw [hL10]; exact ⟨_, _, _, rfl, one_row W6 all⟩)
          have HLL : Hid (L10.length ≤ 200000) := Lib.hid (by rw [hL10]; simp)
          have HL10 := Lib.hid hL10
          clear hL10 hbW c0 c1 c2 c3 c4 c5 c6 a1 a2 a3 a4
          have HAS : Hid (all.size ≤ 1000000) := Lib.hid (by omega)
          have HAS3 : Hid (all.size ≤ 3000) := Lib.hid (by omega)
          generalize (W6.alloc (.cells #[.string all] 9)) = Wb at HJb HBb HXb HAb HV9 HV10 ⊢
          generalize W6.heap.size = b10 at HV10 ⊢
          clear HJ6 HB6 HX6 HA6 HRV6
          obtain ⟨c0, c1, c2, c3, c4, c5, c6⟩ := HJb.out.1.c7
          obtain ⟨a1, _⟩ := HAb.out.2 1 _ rfl
          obtain ⟨a2, _⟩ := HAb.out.2 2 _ rfl
          obtain ⟨a3, _⟩ := HAb.out.2 3 _ rfl
          obtain ⟨a4, _⟩ := HAb.out.2 4 _ rfl
          have HCR := Lib.hid (Crash_all HJb.out.2 (may_small HM.out) all HAS.out true kp hkp tn)
          unfold jv at HCR
          go_wp2_with fail
          (with_reducible refine HCR.out.mono ?_)
          clear HCR
          rintro e Y hO
          rcases hO with ⟨kk, hk, hE⟩ | ⟨t1, D, t2, l', hm1, hop, hor, hE⟩
          · have hk' : kk = 7 := by
              rcases hk with ⟨_, h⟩ | ⟨_, h⟩ | h
              · exact absurd HM.out (h t)
              · have := HAS3.out; omega
              · exact h
            subst hk'
            obtain ⟨uS, uW, rfl, hS, hW, hy⟩ := hE
            obtain ⟨aD, nD, cD, rfl⟩ := srow_slice hS.1
            obtain ⟨aE, nE, cE, rfl⟩ := wrow_slice hW.1
            have HSTo := Lib.hid (fun o => (show Head w b (Y.alloc o) from ⟨aS, aW, aG, aR, nS, nW, nG, nR, cS, cW, cG, cR, J, t, (HJb.out.below hy).below (al Y o), HM.out, below_trans (below_trans HBb.out hy) (al Y o)⟩))
            clear hk hS hW hy c0 c1 c2 c3 c4 c5 c6 a1 a2 a3 a4
            go_wp2_with fail
            go_roundw
            case rel => exact ⟨k + 1, by omega, by go_num, HSTo.out _⟩
            case measure => simp [Go.RowKit.intOf]; omega
          · obtain ⟨uS, uW, rfl, hS, hW, hy⟩ := hE
            obtain ⟨aD, nD, cD, rfl⟩ := srow_slice hS.1
            obtain ⟨aE, nE, cE, rfl⟩ := wrow_slice hW.1
            have hyo := below_trans hy (al Y (.cells #[.slice aD nD cD, .slice aE nE cE] 25))
            have HDS := Lib.hid (hS.1.below (al Y (.cells #[.slice aD nD cD, .slice aE nE cE] 25)))
            have HDW := Lib.hid (hW.1.below (al Y (.cells #[.slice aD nD cD, .slice aE nE cE] 25)))
            have HJc := Lib.hid (HJb.out.below hyo)
            have HBc := Lib.hid (below_trans HBb.out hyo)
            have HXc := Lib.hid (HXb.out.below hyo)
            have HV9c := Lib.hid (HV9.out.below hyo)
            have HV10c := Lib.hid (HV10.out.below hyo)
            have HDB := Lib.hid (Box.made Y [.slice aD nD cD, .slice aE nE cE] 25)
            have HOP := Lib.hid hop
            have HLO : Hid (l' = J.l ∨ l' = L10) := Lib.hid (by
              rcases hor with h | ⟨_, h⟩; exact .inl h; rw [thenL_some hall.2] at h; rw [HL10.out]; exact .inr h)
            clear hS hW hy hyo hop hor hm1 c0 c1 c2 c3 c4 c5 c6 a1 a2 a3 a4 HJb HBb HXb HV9 HV10
            have HOE := Lib.hid (Open_yes HDS.out HDW.out HOP.out)
            go_upto_region 24 with (fail)
            generalize hYc : Y.alloc _ = Yc at HDS HDW HJc HBc HXc HV9c HV10c HOE HDB ⊢
            clear hYc
            obtain ⟨d0, d1⟩ := HDB.out.c2
            go_wp2_with fail
            (with_reducible refine HOE.out.mono ?_)
            clear HOE
            rintro e Z hJE
            obtain ⟨vS, vW, vG, vR, rfl, hS, hW, hG, hR, hy⟩ := hJE
            have HR3 : Hid (JRow Z vS vW vG vR ⟨D, [], t2.seals, t2.half, t2.used, [], l'⟩) := ⟨hS.1, hW.1, hG.1, hR.1⟩
            obtain ⟨aS3, nS3, cS3, rfl⟩ := srow_slice hS.1
            obtain ⟨aW3, nW3, cW3, rfl⟩ := wrow_slice hW.1
            obtain ⟨aG3, nG3, cG3, rfl⟩ := srow_slice hG.1
            obtain ⟨aR3, nR3, cR3, rfl⟩ := srow_slice hR.1
            have HF := Lib.hid (stored_all HR3.out rfl (HXc.out.below hy) (HJc.out.below hy) HM.out.nw HNE.out (below_trans HBc.out hy) HWB.out)
            have HV9d := Lib.hid (HF.out.2.2.2 _ _ (HV9c.out.below hy))
            have HV10d := Lib.hid (HF.out.2.2.2 _ _ (HV10c.out.below hy))
            obtain ⟨q0, q1, q2, q3, q4, q5, q6⟩ := (HXc.out.below hy).c7
            obtain ⟨g0, g1, g2, g3, g4, g5, g6⟩ := (HXc.out.below hy).f7
            clear hS hW hG hR hy HR3 d0 d1 HDB
            unfold jv
            try dsimp only at HF HV9d HV10d
            have HMX := Lib.hid (may_opened HOP.out)
            go_wp2_with fail
            go_meet
            exact ⟨Or.inr ⟨rfl, aS3, aW3, aG3, aR3, nS3, nW3, nG3, nR3, cS3, cW3, cG3, cR3, _, _, J.l, L10, HF.out.1, HMX.out, HV9d.out, HV10d.out, HLO.out, by omega, HLL.out⟩, HF.out.2.1, HF.out.2.2.1⟩
    case rest =>
    clear HA6 HJ6 HB6 HRV6 HX6 a0 f0 hr1 hr2 hr3 hm5 hm6 hr5 hlg hdx
    obtain ⟨hdone, hJ7, hB7⟩ := hcut
    have HJ7 := Lib.hid hJ7
    have HB7 := Lib.hid hB7
    clear hJ7 hB7
    rename World => W7
    rcases hdone with rfl | ⟨rfl, aS2, aW2, aG2, aR2, nS2, nW2, nG2, nR2, cS2, cW2, cG2, cR2, X, t2, l9, l10, hX, hM2, hr9, hr10, hor, hl9, hl10⟩
    · have HST2 : Hid (Head w b W7) := ⟨aS, aW, aG, aR, nS, nW, nG, nR, cS, cW, cG, cR, J, t, HJ7.out, HM.out, HB7.out⟩
      go_wp2_with fail
      go_roundw
      case rel => first | exact ⟨k + 1, by omega, by go_num, HST2.out⟩ | trace_state
      case measure => simp [Go.RowKit.intOf]; omega
    · have HX7 := Lib.hid hX
      have HM2 := Lib.hid hM2
      obtain ⟨a9, n9, c9, rfl, hr9⟩ := hr9
      obtain ⟨a10, n10, c10, rfl, hr10⟩ := hr10
      have HR9 := Lib.hid hr9
      have HR10 := Lib.hid hr10
      have HOR := Lib.hid hor
      clear hX hM2 hr9 hr10 hor
      have hlx : X.l.length ≤ 1000000 := by have := opens_recs HM2.out.op; omega
      have HS9 := Lib.hid (SameB_any HX7.out.2.rR HR9.out hlx (by omega))
      have HS10 := Lib.hid (fun W (hb : Below W7.heap.size W7 W) => SameB_any (HX7.out.2.rR.below hb) (HR10.out.below hb) hlx (by omega))
      obtain ⟨x0, x1, x2, x3, x4, x5, x6⟩ := HX7.out.1.c7
      clear hlx hl9 hl10
      go_upto_region 35 with (fail)
      go_cut [145] from 45 to 145 (fun v wx => v = .bool false ∧ Below W7.heap.size W7 wx)
      case first =>
        by_cases hl : X.l = l9
        · rw [decide_eq_true hl] at HS9
          have HL := Lib.hid hl
          clear hl
          go_wp2_with (go_at_call 11; (with_reducible refine HS9.out.mono ?_); rintro e Y5 ⟨rfl, hz⟩; have HZ := Lib.hid hz; clear hz)
          go_meet
          exact ⟨rfl, HZ.out⟩
        · have hl2 : X.l = l10 := HOR.out.resolve_left hl
          rw [decide_eq_false hl] at HS9
          rw [decide_eq_true hl2] at HS10
          have HL := Lib.hid hl2
          clear hl hl2
          go_wp2_with (first
            | (go_at_call 11; (with_reducible refine HS9.out.mono ?_); rintro e Y5 ⟨rfl, hz⟩; have HZ := Lib.hid hz; obtain ⟨x0, x1, x2, x3, x4, x5, x6⟩ := (HX7.out.below hz).1.c7; clear hz)
            | (go_at_call 11; (with_reducible refine (HS10.out _ HZ.out).mono ?_); rintro e Y6 ⟨rfl, hz⟩; have HZ2 := Lib.hid (below_trans HZ.out hz); clear hz)
            | fail)
          go_meet
          exact ⟨rfl, HZ2.out⟩
      case rest =>
      obtain ⟨rfl, hb⟩ := hcut
      have HX8 := Lib.hid (HX7.out.below hb)
      have HJ8 := Lib.hid (HJ7.out.below hb)
      have HB8 := Lib.hid (below_trans HB7.out hb)
      clear hb HX7 HJ7 HB7 HS9 HS10 HR9 HR10 HOR x0 x1 x2 x3 x4 x5 x6
      rename World => W8
      have HMV := Lib.hid (moved HX8.out.2 HJ8.out.1 HM2.out.nw)
      have HBW : Hid (w.heap.size ≤ b) := hwV
      have HBS := Lib.hid (below_st7 HB8.out HBW.out (.slice aS2 nS2 cS2) (.slice aW2 nW2 cW2) (.int .i64 X.s) (.int .i64 X.h) (.int .i64 X.u) (.slice aG2 nG2 cG2) (.slice aR2 nR2 cR2))
      obtain ⟨x0, x1, x2, x3, x4, x5, x6⟩ := HX8.out.1.c7
      obtain ⟨r0, r1, r2, r3, r4, r5, r6⟩ := HJ8.out.1.c7
      obtain ⟨f0, f1, f2, f3, f4, f5, f6⟩ := HJ8.out.1.f7
      go_upto_region 38 with (fail)
      generalize hW9 : World.setCell _ ⟨b, 6, none⟩ _ = W9 at HMV HBS ⊢
      clear hW9 x0 x1 x2 x3 x4 x5 x6 r0 r1 r2 r3 r4 r5 r6 f0 f1 f2 f3 f4 f5 f6 HX8 HJ8 HB8
      obtain ⟨c0, c1, c2, c3, c4, c5, c6⟩ := HMV.out.1.c7
      have HRI := Lib.hid (Right_yes HMV.out.2 HM2.out)
      unfold jv at HRI
      go_wp2_with (go_at_call 10; (with_reducible refine HRI.out.mono ?_); rintro e W10 ⟨rfl, hz⟩; have HST2 : Hid (Head w b W10) := ⟨aS2, aW2, aG2, aR2, nS2, nW2, nG2, nR2, cS2, cW2, cG2, cR2, X, t2, HMV.out.below hz, HM2.out, below_trans HBS.out hz⟩; clear hz)
      go_roundw
      case rel => exact ⟨k + 1, by omega, by go_num, HST2.out⟩
      case measure => simp [Go.RowKit.intOf]; omega

set_option maxRecDepth 100000 in
set_option maxHeartbeats 4000000 in
theorem lifted (os : Os) (started : os.Started) (H : Type) (enc : TypeId × Value → H) :
    ReturnsInHanded {} Try.checked os 4 .any (Rows.journalLivesSpec.pre6 enc Try.prog Try.f4 Rows.journalLivesRow.domain false) (Rows.journalLivesSpec.post enc Try.prog Try.f4 false true false false) := by
  refine returnsInHanded_of_change (C := Try.checked) own started (by kernel_rfl) Try.func4
    (ChangeSpec.witness6 (enc := enc) (C := Try.checked) false ⟨#[], #[.int .i64 0, .slice none 0 0], []⟩ 8 (by kernel_rfl) (by kernel_rfl) (by kernel_rfl) (by kernel_rfl)) ?_
  intro W base args ds gs before hval0 hW hcnd _
  have hval : ∀ (j : Nat) t v, Try.f4.params[j]? = some t → args[j]? = some v → Value.okWide Try.prog W .any base t v := hval0
  have hW' := hW
  obtain ⟨p, q, hA0, hV, rfl, hfz, hnd⟩ := hW
  have hA : DataW.TrodAll enc Try.prog W 0 (fun _ => true) true Try.f4.params.toList args.toList ds p := hA0
  rw [Try.params4] at hA hval
  obtain ⟨v0, vs0, d0, ds0, p0, q0, hargs, rfl, rfl, h0, r0⟩ := trodAll_cons hA
  obtain ⟨v1, vs1, d1, ds1, p1, q1, rfl, rfl, rfl, h1, r1⟩ := trodAll_cons r0
  obtain ⟨rfl, rfl, rfl⟩ := trodAll_nil r1
  obtain rfl : args = #[v0, v1] := by cases args; simp_all
  obtain ⟨rfl, rfl⟩ := trodVars_none hV
  obtain ⟨a0, rfl, rfl, rfl, w0⟩ := open_int Try.underlying3 (hval 0 3 v0 rfl rfl) h0
  have hb0 : -9223372036854775808 ≤ a0 ∧ a0 ≤ 9223372036854775807 := by
    have := w0
    simp [Lit.wf, IntKind.min, IntKind.max, IntKind.bits, IntKind.signed] at this
    omega
  have k1 := h1
  have lt1 : ∀ x ∈ p1, x.block < W.heap.size := by obtain ⟨m, hm⟩ := k1; exact DataW.trod_lt m _ _ _ hm
  obtain ⟨fuel1, hf1⟩ := h1
  obtain ⟨aa1, ll1, cc1, rfl⟩ := okWide_slice Try.underlying41 (hval 1 41 v1 rfl rfl)
  have w1 := argA_of (v := .slice aa1 ll1 cc1) hf1
  clear hA0 hval0
  refine (walk0 a0 hb0.1 hb0.2 (.slice aa1 ll1 cc1) W w1).mono fun e W' ⟨he, bel⟩ => ?_
  subst he
  exact ⟨_, rfl, _, _, _, [], _, [], hW', trodAll_mk1 (shut_bool Try.underlying4 _), (trodAll_cons_mk (shut_int Try.underlying3 w0) (trodAll_cons_mk (Below.trod laidOut (by kernel_rfl) (of_decide_eq_true (by kernel_rfl)) k1 bel lt1) trodAll_mk0)), rfl, bel.frame _, fun h => by cases h⟩

theorem over : Rows.journalLivesRow.holds Try.pinned (OpenSpec.ofChange Rows.journalLivesSpec) :=
  OpenClaim.holds_of_wide 4 Try.f4 rfl rfl rfl rfl rfl rfl rfl ⟨rfl, rfl, rfl, rfl, rfl⟩ rfl rfl rfl rfl rfl (by kernel_rfl) Try.func4 (by kernel_rfl)
    (of_decide_eq_true (by kernel_rfl)) (by unfold Func.isWrapper; first | (rw [if_pos (by decide +kernel)]; kernel_rfl) | (rw [if_neg (by decide +kernel)]; exact ⟨rfl, rfl⟩))
    (fun os started H enc _ => lifted os started H enc)

theorem proved : Rows.JournalLivesSaid := over
#print axioms proved
end Go.Proofs.Ytndakbjmahkjdaa.journalLives
