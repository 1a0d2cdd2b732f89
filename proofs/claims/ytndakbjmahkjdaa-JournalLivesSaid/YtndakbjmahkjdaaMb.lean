/-
  Joined: DiskGet, DiskBit, DiskLost.
-/
import Derived.Test.YtndakbjmahkjdaaMa
import Derived.Laws.Bits64b

/-
  Contract of Get (package disk): what is read of a sector is the data of the last write at its place, or its own bytes.
-/
namespace Go.Proofs.Ytndakbjmahkjdaa.Disk
open Go.ChangeShapes Go.WideShapes Go.ChangeAt Go.RowKit Go.Lib Go.Shelf
attribute [local go_sem] Oper.semAt_some

/-- What is read at place i, of those writes, where acc was there. -/
def rd (i : Int) (acc : ByteArray) (ws : List (Int × ByteArray)) : ByteArray := ws.foldl (fun a y => if y.1 = i then y.2 else a) acc
theorem rd_snoc (i : Int) (acc : ByteArray) (ws : List (Int × ByteArray)) (y : Int × ByteArray) : rd i acc (ws ++ [y]) = if y.1 = i then y.2 else rd i acc ws := by simp [rd, List.foldl_append]
theorem rd_none {i : Int} {acc : ByteArray} {ws : List (Int × ByteArray)} (h : ∀ y ∈ ws, y.1 ≠ i) : rd i acc ws = acc := by
  induction ws generalizing acc with
  | nil => rfl
  | cons y r ih =>
    unfold rd
    rw [List.foldl_cons, if_neg (h y (by simp))]
    exact ih fun z hz => h z (by simp [hz])
theorem rd_append (i : Int) (acc : ByteArray) (a b : List (Int × ByteArray)) : rd i acc (a ++ b) = rd i (rd i acc a) b := by simp [rd, List.foldl_append]
theorem rd_last {i : Int} {acc : ByteArray} {ws : List (Int × ByteArray)} {r : Nat} (hr : r < ws.length) (he : ws[r].1 = i) (h : ∀ j (hj : j < ws.length), r < j → ws[j].1 ≠ i) : rd i acc ws = ws[r].2 := by
  have e : rd i acc ws = rd i acc (ws.take r ++ [ws[r]] ++ ws.drop (r + 1)) := by congr 1; simp
  rw [e, rd_append, rd_none, rd_snoc, if_pos he]
  intro y hy
  obtain ⟨k, hk, rfl⟩ := List.mem_iff_getElem.1 hy
  rw [List.getElem_drop]
  exact h _ (by simp at hk; omega) (by omega)
theorem down_mem {ws : List (Int × ByteArray)} {r j : Nat} (hj : j < ws.length) (hr : r ≤ j) : (j, ws[j]) ∈ down ws r := by
  unfold down
  rw [List.mem_map]
  have e : ws.length - 1 - (ws.length - 1 - j) = j := by omega
  exact ⟨ws.length - 1 - j, by rw [List.mem_range]; omega, by simp [e, List.getElem?_eq_getElem hj]⟩

def TextE (s : ByteArray) (k : Int) (w : World) (e : Ending) (w' : World) : Prop := e = .returned (.tuple #[.string s, .int .i64 k]) ∧ Below w.heap.size w w'

/-- A block of one cell. -/
def Cell1 (b : Nat) (c : Value) (w : World) : Prop := b < w.heap.size ∧ w.cell? ⟨b, 0, none⟩ = some c ∧ w.frozen? ⟨b, 0, none⟩ = false
theorem Cell1.below {b : Nat} {c : Value} {w w' : World} (h : Cell1 b c w) (hb : Below w.heap.size w w') : Cell1 b c w' :=
  ⟨Nat.lt_of_lt_of_le h.1 hb.size, (hb.cell (p := ⟨b, 0, none⟩) h.1).trans h.2.1, (hb.frozen (p := ⟨b, 0, none⟩) h.1).trans h.2.2⟩
theorem Cell1.made (w : World) (c : Value) (T : TypeId) : Cell1 w.heap.size c (w.alloc (.cells #[c] T)) := by
  refine ⟨by simp, ?_, ?_⟩ <;> simp

/-- Block B is just two cells of a write. -/
def Two (W : World) (B : Nat) (v0 v1 : Value) : Prop := W.heap[B]? = some (.cells #[v0, v1] 75 (0, 0))
theorem Two.lt {W : World} {B : Nat} {v0 v1 : Value} (h : Two W B v0 v1) : B < W.heap.size := (Array.getElem?_eq_some_iff.1 h).1
theorem Two.cell0 {W : World} {B : Nat} {v0 v1 : Value} (h : Two W B v0 v1) : W.cell? ⟨B, 0, none⟩ = some v0 := by simp [World.cell?, show W.heap[B]? = _ from h]
theorem Two.cell1 {W : World} {B : Nat} {v0 v1 : Value} (h : Two W B v0 v1) : W.cell? ⟨B, 1, none⟩ = some v1 := by simp [World.cell?, show W.heap[B]? = _ from h]
theorem two_own {β : Type} (f0 f1 : β → Value) (B : Nat) : Own (fun s W => Two W B (f0 s) (f1 s)) := fun s X Y row hs hg hrow =>
  (hg.block B hs.lt (fun e' => by obtain ⟨o, ho, hc⟩ := hrow B e'.symm; rw [show X.heap[B]? = _ from hs] at ho; cases ho; cases hc)).trans hs

/-- Get's own blocks: the disk, the place, the two results. -/
def GB (w : World) (vS vW : Value) (i : Int) (W : World) : Prop :=
  Box2 w.heap.size vS vW W ∧ Cell1 (w.heap.size + 1) (.int .i64 i) W ∧ Cell1 (w.heap.size + 1 + 1) (.string ⟨#[]⟩) W ∧ Cell1 (w.heap.size + 1 + 1 + 1) (.int .i64 0) W ∧ Below w.heap.size w W
theorem GB.below {w W W' : World} {vS vW : Value} {i : Int} (h : GB w vS vW i W) (hb : Below W.heap.size W W') : GB w vS vW i W' :=
  ⟨h.1.below hb, h.2.1.below hb, h.2.2.1.below hb, h.2.2.2.1.below hb, below_trans h.2.2.2.2 hb⟩
/-- The world behind Get's first operations. -/
def getW (w : World) (vS vW : Value) (i : Int) : World := (((w.alloc (.cells #[vS, vW] 25)).alloc (.cells #[.int .i64 i] 3)).alloc (.cells #[.string ⟨#[]⟩] 9)).alloc (.cells #[.int .i64 0] 30)
theorem GB.made (w : World) (vS vW : Value) (i : Int) : GB w vS vW i (getW w vS vW i) := by
  have b1 := Box2.made w vS vW 25
  have h1 : ∀ (W : World) o, Below W.heap.size W (W.alloc o) := fun W o => (Below.refl _ _).alloc (Nat.le_refl _) _
  have b2 := Cell1.made (w.alloc (.cells #[vS, vW] 25)) (.int .i64 i) 3
  have b3 := Cell1.made ((w.alloc (.cells #[vS, vW] 25)).alloc (.cells #[.int .i64 i] 3)) (.string ⟨#[]⟩) 9
  have b4 := Cell1.made (((w.alloc (.cells #[vS, vW] 25)).alloc (.cells #[.int .i64 i] 3)).alloc (.cells #[.string ⟨#[]⟩] 9)) (.int .i64 0) 30
  simp only [World.size_alloc] at b2 b3 b4
  exact ⟨((b1.below (h1 _ _)).below (h1 _ _)).below (h1 _ _), (b2.below (h1 _ _)).below (h1 _ _), b3.below (h1 _ _), b4, below_trans (below_trans (below_trans (h1 _ _) (h1 _ _)) (h1 _ _)) (h1 _ _)⟩
/-- Between two rounds: none of those that came was at place i; nothing that lay when the loop began has turned. -/
def GetI (W1 : World) (i : Int) (pre : List PW) (W : World) : Prop := (∀ p ∈ pre, p.2.1 ≠ i) ∧ Below W1.heap.size W1 W
/-- Behind the round that returns: the last that came is the first at place i. -/
def GetX (w : World) (i : Int) (c : Code) (pre : List PW) (W : World) : Prop :=
  (c = .ret ∧ ∃ ini last, pre = ini ++ [last] ∧ (∀ p ∈ ini, p.2.1 ≠ i) ∧ last.2.1 = i ∧ W.cell? ⟨w.heap.size + 1 + 1, 0, none⟩ = some (.string last.2.2) ∧ W.cell? ⟨w.heap.size + 1 + 1 + 1, 0, none⟩ = some (.int .i64 0)) ∧ Below w.heap.size w W
theorem getI_own (W1 : World) (i : Int) : OwnFrom W1.heap.size (GetI W1 i) :=
  OwnFrom.and (Own.from (fun _ _ _ _ hs _ _ => hs) _) (ownFrom_below (Nat.le_refl _) (Nat.le_refl _))
theorem getX_own {w W1 : World} (h : Below w.heap.size w W1) (i : Int) (c : Code) : OwnFrom W1.heap.size (GetX w i c) :=
  OwnFrom.and (Own.from (fun s A B row hs hg hr => by obtain ⟨hc, ini, last, e1, e2, e3, e4, e5⟩ := hs; exact ⟨hc, ini, last, e1, e2, e3, cell_kept e4 hg hr, cell_kept e5 hg hr⟩) _) (ownFrom_below (Nat.le_refl _) h.size)
theorem getI_snoc {W1 : World} {i : Int} {pre : List PW} {W : World} (h : GetI W1 i pre W) {x : PW} (hx : x.2.1 ≠ i) : GetI W1 i (pre ++ [x]) W :=
  ⟨fun p hp => (List.mem_append.1 hp).elim (h.1 p) (fun e => by obtain rfl := List.mem_singleton.1 e; exact hx), h.2⟩
theorem rd_all {ws : List (Int × ByteArray)} {i : Int} {acc : ByteArray} (h : ∀ p ∈ down ws 0, p.2.1 ≠ i) : rd i acc ws = acc := rd_none fun y hy => by
  obtain ⟨k, hk, rfl⟩ := List.mem_iff_getElem.1 hy
  exact h _ (down_mem hk (Nat.zero_le _))
theorem rd_some {ws : List (Int × ByteArray)} {i : Int} {acc : ByteArray} {r : Nat} (hr : r < ws.length) {ini : List PW} {last : PW} (e : down ws r = ini ++ [last]) (h : ∀ p ∈ ini, p.2.1 ≠ i) (hl : last.2.1 = i) : rd i acc ws = last.2.2 := by
  rw [down_step hr] at e
  obtain ⟨rfl, e5⟩ := List.append_inj' e rfl
  obtain rfl : (r, ws[r]) = last := by simpa using e5
  exact rd_last hr hl fun j hj hrj => h _ (down_mem hj (by omega))

/-- Stores into the results. -/
theorem GB.stored {w W : World} {vS vW : Value} {i : Int} (h : GB w vS vW i W) (u0 u1 : Value) :
    ((W.setCell ⟨w.heap.size + 1 + 1, 0, none⟩ u0).setCell ⟨w.heap.size + 1 + 1 + 1, 0, none⟩ u1).cell? ⟨w.heap.size + 1 + 1, 0, none⟩ = some u0 ∧
    ((W.setCell ⟨w.heap.size + 1 + 1, 0, none⟩ u0).setCell ⟨w.heap.size + 1 + 1 + 1, 0, none⟩ u1).cell? ⟨w.heap.size + 1 + 1 + 1, 0, none⟩ = some u1 ∧
    Below w.heap.size w ((W.setCell ⟨w.heap.size + 1 + 1, 0, none⟩ u0).setCell ⟨w.heap.size + 1 + 1 + 1, 0, none⟩ u1) := by
  obtain ⟨_, _, ⟨_, c1, _⟩, ⟨_, c2, _⟩, hb⟩ := h
  have n01 : (⟨w.heap.size + 1 + 1, 0, none⟩ : Addr) ≠ ⟨w.heap.size + 1 + 1 + 1, 0, none⟩ := by simp
  refine ⟨?_, ?_, (hb.setCell (p := ⟨w.heap.size + 1 + 1, 0, none⟩) (by simp; omega) _).setCell (p := ⟨w.heap.size + 1 + 1 + 1, 0, none⟩) (by simp; omega) _⟩
  · rw [World.cell?_setCell_other _ _ _ _ n01.symm]; exact World.cell?_setCell_same _ _ _ c1
  · exact World.cell?_setCell_same _ _ _ (u := .int .i64 0) (by rw [World.cell?_setCell_other _ _ _ _ n01]; exact c2)

set_option maxHeartbeats 1000000 in
set_option maxRecDepth 100000 in
theorem Get_bad {vS vW : Value} {ls : List ByteArray} {ws : List (Int × ByteArray)} {w : World} (hS : SRow w vS ls) (hW : WRow w vW ws) (hr : smallP ls ws) (hb : rightB ls ws = false) (i : Int) : Calls Try.prog 37 #[.agg #[vS, vW], .int .i64 i] w (TextE ⟨#[]⟩ 1 w) := by
  have HR := Lib.hid (fun W (h : Below w.heap.size w W) => hb ▸ Right_any (hS.below h) (hW.below h) hr)
  obtain ⟨aS, cap, rfl⟩ := hS.slice
  obtain ⟨aW, capW, rfl⟩ := hW.slice
  have HG := Lib.hid (GB.made w (.slice aS ls.length cap) (.slice aW ws.length capW) i)
  clear hS hW
  go_enter Try.func37, Try.ntmps37
  go_wp2_with fail
  refine (HR.out _ HG.out.2.2.2.2).mono ?_
  rintro e x ⟨rfl, hx⟩
  have HX := Lib.hid (HG.out.below hx)
  obtain ⟨⟨b0, b1, b2, b3, b4⟩, ⟨d0, d1, d2⟩, ⟨f0, f1, f2⟩, ⟨k0, k1, k2⟩, _⟩ := HX.out
  have HZ := Lib.hid (HX.out.stored (.string ⟨#[]⟩) (.int .i64 1))
  clear hx HG
  go_wp2_with fail
  obtain ⟨z1, z2, z3⟩ := HZ.out
  exact bodyPost_ret (v := .tuple #[.string ⟨#[]⟩, .int .i64 1]) (by simp [results, Try.results37, go_sem, z1, z2]) rfl ⟨rfl, z3⟩

set_option maxHeartbeats 1000000 in
set_option maxRecDepth 100000 in
theorem Get_none {vS vW : Value} {ls : List ByteArray} {ws : List (Int × ByteArray)} {w : World} (hS : SRow w vS ls) (hW : WRow w vW ws) (hr : smallP ls ws) (hb : rightB ls ws = true) (i : Int) (hi : hasB ls.length i = false) : Calls Try.prog 37 #[.agg #[vS, vW], .int .i64 i] w (TextE ⟨#[]⟩ 8 w) := by
  have HR := Lib.hid (fun W (h : Below w.heap.size w W) => hb ▸ Right_any (hS.below h) (hW.below h) hr)
  obtain ⟨aS, cap, rfl⟩ := hS.slice
  obtain ⟨aW, capW, rfl⟩ := hW.slice
  have HG := Lib.hid (GB.made w (.slice aS ls.length cap) (.slice aW ws.length capW) i)
  have HH := Lib.hid (fun W => hi ▸ has_any aS ls.length cap (.slice aW ws.length capW) i W)
  clear hS hW
  go_enter Try.func37, Try.ntmps37
  go_wp2_with fail
  refine (HR.out _ HG.out.2.2.2.2).mono ?_
  rintro e x ⟨rfl, hx⟩
  have HX := Lib.hid (HG.out.below hx)
  obtain ⟨⟨b0, b1, b2, b3, b4⟩, ⟨d0, d1, d2⟩, ⟨f0, f1, f2⟩, ⟨k0, k1, k2⟩, _⟩ := HX.out
  clear hx HG
  go_wp2_with fail
  refine (HH.out _).mono ?_
  rintro e y ⟨rfl, hy⟩
  clear b0 b1 b2 b3 b4 d0 d1 d2 f0 f1 f2 k0 k1 k2
  have HY := Lib.hid (HX.out.below hy)
  obtain ⟨⟨b0, b1, b2, b3, b4⟩, ⟨d0, d1, d2⟩, ⟨f0, f1, f2⟩, ⟨k0, k1, k2⟩, _⟩ := HY.out
  have HZ := Lib.hid (HY.out.stored (.string ⟨#[]⟩) (.int .i64 8))
  clear hy HX
  go_wp2_with fail
  obtain ⟨z1, z2, z3⟩ := HZ.out
  exact bodyPost_ret (v := .tuple #[.string ⟨#[]⟩, .int .i64 8]) (by simp [results, Try.results37, go_sem, z1, z2]) rfl ⟨rfl, z3⟩

set_option maxHeartbeats 2000000 in
set_option maxRecDepth 100000 in
theorem Get_yes {vS vW : Value} {ls : List ByteArray} {ws : List (Int × ByteArray)} {w : World} (hS : SRow w vS ls) (hW : WRow w vW ws) (hr : smallP ls ws) (hb : rightB ls ws = true) (i : Nat) (hi : i < ls.length) : Calls Try.prog 37 #[.agg #[vS, vW], .int .i64 i] w (TextE (rd i ls[i] ws) 0 w) := by
  have hh : hasB ls.length i = true := hasB_t.2 ⟨by omega, by omega⟩
  have HR := Lib.hid (fun W (h : Below w.heap.size w W) => hb ▸ Right_any (hS.below h) (hW.below h) hr)
  obtain ⟨aS, cap, rfl⟩ := hS.slice
  obtain ⟨aW, capW, rfl⟩ := hW.slice
  have HG := Lib.hid (GB.made w (.slice aS ls.length cap) (.slice aW ws.length capW) i)
  have HH := Lib.hid (fun W => hh ▸ has_any aS ls.length cap (.slice aW ws.length capW) i W)
  have HS := Lib.hid hS
  have HW := Lib.hid hW
  clear hS hW
  refine (callsIn_wide (n := 5)).1 ?_
  refine callsIn_of_wp_marks Try.func37 rfl trivial ?_ rfl
  simp only [Try.ntmps37, List.size_toArray, List.length_cons, List.length_nil, Nat.reduceAdd, Nat.reduceSub, Array.replicate_succ, Array.replicate_zero, List.push_toArray, List.append_toArray, List.nil_append, List.cons_append]
  gi_wp2_with fail
  refine ⟨trivial, (callsIn_wide.2 (HR.out _ HG.out.2.2.2.2)).mono ?_⟩
  rintro e x ⟨rfl, hx⟩
  have HX := Lib.hid (HG.out.below hx)
  obtain ⟨⟨b0, b1, b2, b3, b4⟩, ⟨d0, d1, d2⟩, ⟨f0, f1, f2⟩, ⟨k0, k1, k2⟩, _⟩ := HX.out
  clear hx HG
  gi_wp2_with fail
  refine ⟨trivial, (callsIn_wide.2 (HH.out _)).mono ?_⟩
  rintro e y ⟨rfl, hy⟩
  clear b0 b1 b2 b3 b4 d0 d1 d2 f0 f1 f2 k0 k1 k2
  have HY := Lib.hid (HX.out.below hy)
  obtain ⟨⟨b0, b1, b2, b3, b4⟩, ⟨d0, d1, d2⟩, ⟨f0, f1, f2⟩, ⟨k0, k1, k2⟩, _⟩ := HY.out
  clear hy HX
  gi_wp2_with fail
  refine ⟨trivial, (back_in Fence.wide _ trivial rfl _ _ _ _).mono ?_⟩
  rintro e z ⟨rfl, rfl⟩
  gi_wp2_with fail
  have hal : Below y.heap.size y (y.alloc (.cells #[.slice aW ws.length capW] 23)) := (Below.refl _ _).alloc (Nat.le_refl _) _
  have HG := Lib.hid (HY.out.below hal)
  have hbox := Cell1.made y (.slice aW ws.length capW) 23
  have HSW := Lib.hid (HS.out.below HG.out.2.2.2.2)
  have HWW := Lib.hid (HW.out.below HG.out.2.2.2.2)
  have hlow : ∀ g len cap, Value.slice aW ws.length capW = .slice (some ⟨g, 0, none⟩) len cap → g < (y.alloc (.cells #[.slice aW ws.length capW] 23)).heap.size := by
    intro g len cap e
    rcases HWW.out with ⟨e', _⟩ | ⟨g', cap', e', _, hg, _⟩
    · rw [e] at e'; cases e'
    · rw [e] at e'; cases e'; exact hg
  generalize (y.alloc (.cells #[.slice aW ws.length capW] 23)) = W1 at HG hbox HSW HWW hlow ⊢
  clear hal b0 b1 b2 b3 b4 d0 d1 d2 f0 f1 f2 k0 k1 k2
  refine wpIn_rangeFunc_ownH rfl (by omega) (gf := 70) (lb := #[.pointer (some ⟨y.heap.size, 0, none⟩)]) rfl trivial (enters_of Try.func70 (by kernel_rfl) rfl)
    (back_stops Fence.wide _ trivial rfl (by omega) y.heap.size W1.heap.size (.slice aW ws.length capW) ws hr.2.1 W1 hbox.1 (Nat.le_refl _) hbox.2.1 HWW.out hlow) belowK_t (belowK_b (Nat.le_refl _)) (Below.refl _ _) (fun _ => rfl)
    (GetI W1 i) (GetX w i) (getI_own W1 i) (getX_own HG.out.2.2.2.2 i) ⟨by simp, Below.refl _ _⟩
    (fun x a' W => ∃ Bx, W1.heap.size ≤ Bx ∧ Two W Bx (.int .i64 x.2.1) (.string x.2.2) ∧ a' = { tmps := #[.agg #[.slice aS ls.length cap, .slice aW ws.length capW], .int .i64 i, .pointer (some ⟨w.heap.size, 0, none⟩), .pointer (some ⟨w.heap.size + 1, 0, none⟩), .pointer (some ⟨w.heap.size + 1 + 1, 0, none⟩), .pointer (some ⟨w.heap.size + 1 + 1 + 1, 0, none⟩), undef, .pointer (some ⟨Bx, 0, none⟩), .agg #[.slice aS ls.length cap, .slice aW ws.length capW], .bool true, .bool false, .agg #[.slice aS ls.length cap, .slice aW ws.length capW], .int .i64 i, .bool true, .bool false, .pointer (some ⟨w.heap.size, 1, none⟩), .slice aW ws.length capW, .func (.func 70) #[] #[.pointer (some ⟨y.heap.size, 0, none⟩)], .int .i64 (x.1 : Int), .agg #[.int .i64 x.2.1, .string x.2.2], undef, undef, undef, undef, undef, undef, undef, undef, undef, undef, undef], defers := [] })
    (fun x a' => fun s A B row hs hg hr => by obtain ⟨Bx, e1, e2, e3⟩ := hs; exact ⟨Bx, e1, two_own (fun _ : Unit => (Value.int .i64 x.2.1)) (fun _ => (Value.string x.2.2)) Bx () A B row e2 hg (fun r e => (hr r e).2), e3⟩) ?assign ?body ?done ?stop
  case assign =>
    rintro l pre x W K hi hK
    simp only [encPW]
    gi_wp2
    exact hK _ _ ((KeepsOthers.alloc _ _).from _) ((Below.refl _ W).alloc hi.2.size _) ⟨hi.1, hi.2.alloc hi.2.size _⟩ ⟨W.heap.size, hi.2.size, World.alloc_heap_new W _, rfl⟩
  case body =>
    rintro l pre x a' W hl ⟨r, hr⟩ hp ⟨Bx, hBx, bX, rfl⟩ hlt
    have HP := Lib.hid hp
    have HGW := Lib.hid (HG.out.below hp.2)
    obtain ⟨⟨b0, b1, b2, b3, b4⟩, ⟨d0, d1, d2⟩, ⟨f0, f1, f2⟩, ⟨k0, k1, k2⟩, _⟩ := HGW.out
    have hx0 := bX.cell0
    have hx1 := bX.cell1
    clear hp
    obtain ⟨xi, xa, xd⟩ := x
    dsimp only at hx0 hx1 ⊢
    have HZ := Lib.hid (HGW.out.stored (.string xd) (.int .i64 0))
    by_cases hxa : xa = i
    · subst hxa
      gi_wp2
      exact ⟨((KeepsOthers.setCell _ _ _).trans (KeepsOthers.setCell _ _ _)).from _, ⟨rfl, pre, (xi, i, xd), rfl, HP.out.1, rfl, HZ.out.1, HZ.out.2.1⟩, HZ.out.2.2⟩
    · have HXA := Lib.hid hxa
      gi_wp2
      exact ⟨KeepsFrom.refl _ _, Below.refl _ _, getI_snoc HP.out HXA.out⟩
  case done =>
    rintro D ys W hD rfl ⟨hne, hB⟩ hK
    have HGW := Lib.hid (HG.out.below hB)
    obtain ⟨⟨b0, b1, b2, b3, b4⟩, ⟨d0, d1, d2⟩, ⟨f0, f1, f2⟩, ⟨k0, k1, k2⟩, _⟩ := HGW.out
    obtain ⟨gs, rfl, hcap, hgs, hce⟩ := (HSW.out.below hB).at hi
    have hne' := rd_all (acc := ls[i]) hne
    obtain ⟨r, hlr⟩ : ∃ r, ls[i] = r := ⟨_, rfl⟩
    have HNE : Hid (rd i ls[i] ws = r) := hne'.trans hlr
    rw [hlr] at hce
    have HZ := Lib.hid (HGW.out.stored (.string r) (.int .i64 0))
    clear hne hB hne' hlr
    gi_wp2
    obtain ⟨z1, z2, z3⟩ := HZ.out
    have hK' := ((KeepsOthers.setCell W ⟨w.heap.size + 1 + 1, 0, none⟩ (.string r)).trans (KeepsOthers.setCell _ ⟨w.heap.size + 1 + 1 + 1, 0, none⟩ (.int .i64 0))).same D _ hK rfl
    refine ⟨by simp, .inl ⟨_, _, rfl, run_takeDeferred hK', ?_⟩⟩
    have y1 := cell_kept z1 (grownBy_putObj' _ D (.deferred none)) (fun r e => by cases e; exact ⟨_, hK', rfl⟩)
    have y2 := cell_kept z2 (grownBy_putObj' _ D (.deferred none)) (fun r e => by cases e; exact ⟨_, hK', rfl⟩)
    refine ⟨.tuple #[.string r, .int .i64 0], ?_, by rw [HNE.out], z3.trans (belowK_b (w := W1) HG.out.2.2.2.2.size _ D _ _ hD hK' rfl rfl)⟩
    simp [results, Try.results37, go_sem, y1, y2]
  case stop =>
    rintro D c pre W hD ⟨r, hr, rfl⟩ ⟨⟨rfl, ini, last, e1, e2, e3, c1, c2⟩, hB⟩ hK
    have HN := Lib.hid (rd_some (acc := ls[i]) hr e1 e2 e3)
    clear e1 e2 e3
    gi_wp2
    refine ⟨by simp, .inl ⟨_, _, rfl, run_takeDeferred hK, ?_⟩⟩
    have y1 := cell_kept c1 (grownBy_putObj' _ D (.deferred none)) (fun r e => by cases e; exact ⟨_, hK, rfl⟩)
    have y2 := cell_kept c2 (grownBy_putObj' _ D (.deferred none)) (fun r e => by cases e; exact ⟨_, hK, rfl⟩)
    refine ⟨.tuple #[.string last.2.2, .int .i64 0], ?_, by rw [HN.out], hB.trans (belowK_b (w := W1) HG.out.2.2.2.2.size _ D _ _ hD hK rfl rfl)⟩
    simp [results, Try.results37, go_sem, y1, y2]
end Go.Proofs.Ytndakbjmahkjdaa.Disk

/-
  Contracts of isKept (package disk) and of the reference's Kept: is a bit set?
-/
namespace Go.Proofs.Ytndakbjmahkjdaa.Disk
open Go.ChangeShapes Go.WideShapes Go.ChangeAt Go.RowKit Go.Lib

/-- Is bit i of k set? -/
def bitB (k i : Nat) : Bool := decide (k / 2 ^ i % 2 = 1)

theorem beq_mod (y : Nat) : ((y : Int) % 2 == 1) = decide (y % 2 = 1) := by
  rw [Bool.eq_iff_iff]
  simp
  omega
theorem bit_and {k i : Nat} (hk : k < 18446744073709551616) : (bits BinOp.and IntKind.u64 ((k : Int) / 2 ^ i) 1 == 1) = bitB k i := by
  have hb : k / 2 ^ i < 18446744073709551616 := Nat.lt_of_le_of_lt (Nat.div_le_self _ _) hk
  have e : ((k : Int) / 2 ^ i) = ((k / 2 ^ i : Nat) : Int) := by simp
  rw [e]
  unfold bitB
  generalize k / 2 ^ i = y at hb
  have := bits_and_u64_nat y 1 hb (by omega)
  rw [Nat.and_one_is_mod] at this
  rw [show (1 : Int) = ((1 : Nat) : Int) from rfl, this, ← beq_mod]
  simp

theorem bit_min {k i : Nat} (hk : k < 18446744073709551616) : (bits BinOp.and IntKind.u64 ((k : Int) / 2 ^ min i 64) 1 == 1) = bitB k i := by
  rw [bit_and hk]
  by_cases h : i ≤ 64
  · rw [Nat.min_eq_left h]
  · rw [Nat.min_eq_right (by omega)]
    have e : k / 2 ^ i = 0 := Nat.div_eq_of_lt (Nat.lt_of_lt_of_le hk (Nat.pow_le_pow_right (by omega : 0 < 2) (by omega : 64 ≤ i)))
    have e' : k / 2 ^ 64 = 0 := Nat.div_eq_of_lt hk
    unfold bitB
    rw [e, e']

set_option maxRecDepth 100000 in
theorem isKept_any (k i : Nat) (hk : k < 18446744073709551616) (w : World) : Calls Try.prog 42 #[.int .u64 k, .int .i64 i] w fun e w' => e = .returned (.bool (bitB k i)) ∧ w = w' := by
  go_enter Try.func42, Try.ntmps42
  go_wp2
  go_ret
  exact ⟨ret_bool (bit_min hk), rfl⟩

end Go.Proofs.Ytndakbjmahkjdaa.Disk

/-
  Contract of lastLost (package disk): the last of the writes whose bit is not set, if there is one.
-/
namespace Go.Proofs.Ytndakbjmahkjdaa.Disk
open Go.ChangeShapes Go.WideShapes Go.ChangeAt Go.RowKit Go.Lib Go.Shelf
attribute [local go_sem] Oper.semAt_some

/-- The last of n whose bit is not set, if there is one. -/
def LastLost (k n : Nat) : Option Nat → Prop
  | none => ∀ j, j < n → bitB k j = true
  | some r => r < n ∧ bitB k r = false ∧ ∀ j, r < j → j < n → bitB k j = true
/-- What lastLost returns. -/
def lostV (ws : List (Int × ByteArray)) : Option Nat → Value
  | none => .tuple #[.agg #[.int .i64 0, .string ⟨#[]⟩], .bool false]
  | some r => .tuple #[.agg #[.int .i64 (ws.getD r (0, ⟨#[]⟩)).1, .string (ws.getD r (0, ⟨#[]⟩)).2], .bool true]
def LostB (k : Nat) (ws : List (Int × ByteArray)) (w : World) (e : Ending) (w' : World) : Prop := ∃ o, LastLost k ws.length o ∧ e = .returned (lostV ws o) ∧ Below w.heap.size w w'

/-- lastLost's own blocks. -/
def LB (w : World) (k : Nat) (W : World) : Prop :=
  Cell1 w.heap.size (.int .u64 k) W ∧ Box2 (w.heap.size + 1) (.int .i64 0) (.string ⟨#[]⟩) W ∧ Cell1 (w.heap.size + 1 + 1) (.bool false) W ∧ Below w.heap.size w W
theorem LB.below {w W W' : World} {k : Nat} (h : LB w k W) (hb : Below W.heap.size W W') : LB w k W' :=
  ⟨h.1.below hb, h.2.1.below hb, h.2.2.1.below hb, below_trans h.2.2.2 hb⟩
def lostW (w : World) (k : Nat) : World := ((w.alloc (.cells #[.int .u64 k] 28)).alloc (.cells #[.int .i64 0, .string ⟨#[]⟩] 75)).alloc (.cells #[.bool false] 4)
theorem LB.made (w : World) (k : Nat) : LB w k (lostW w k) := by
  have h1 : ∀ (W : World) o, Below W.heap.size W (W.alloc o) := fun W o => (Below.refl _ _).alloc (Nat.le_refl _) _
  have b1 := Cell1.made w (.int .u64 k) 28
  have b2 := Box2.made (w.alloc (.cells #[.int .u64 k] 28)) (.int .i64 0) (.string ⟨#[]⟩) 75
  have b3 := Cell1.made ((w.alloc (.cells #[.int .u64 k] 28)).alloc (.cells #[.int .i64 0, .string ⟨#[]⟩] 75)) (.bool false) 4
  simp only [World.size_alloc] at b2 b3
  exact ⟨(b1.below (h1 _ _)).below (h1 _ _), b2.below (h1 _ _), b3, below_trans (below_trans (h1 _ _) (h1 _ _)) (h1 _ _)⟩
/-- The world behind the stores into the results. -/
def lostSt (w W : World) (u0 u1 u2 : Value) : World := ((W.setCell ⟨w.heap.size + 1, 0, none⟩ u0).setCell ⟨w.heap.size + 1, 1, none⟩ u1).setCell ⟨w.heap.size + 1 + 1, 0, none⟩ u2
theorem LB.stored {w W : World} {k : Nat} (h : LB w k W) (u0 u1 u2 : Value) :
    (lostSt w W u0 u1 u2).cell? ⟨w.heap.size + 1, 0, none⟩ = some u0 ∧ (lostSt w W u0 u1 u2).cell? ⟨w.heap.size + 1, 1, none⟩ = some u1 ∧ (lostSt w W u0 u1 u2).cell? ⟨w.heap.size + 1 + 1, 0, none⟩ = some u2 ∧
    Below w.heap.size w (lostSt w W u0 u1 u2) ∧ KeepsOthers W (lostSt w W u0 u1 u2) := by
  obtain ⟨_, h2, ⟨_, c2, _⟩, hb⟩ := h
  obtain ⟨_, g1, g2, _⟩ := h2.set u0 u1
  have n1 : (⟨w.heap.size + 1 + 1, 0, none⟩ : Addr) ≠ ⟨w.heap.size + 1, 0, none⟩ := by simp
  have n2 : (⟨w.heap.size + 1 + 1, 0, none⟩ : Addr) ≠ ⟨w.heap.size + 1, 1, none⟩ := by simp
  unfold lostSt
  refine ⟨?_, ?_, ?_, ((hb.setCell (p := ⟨w.heap.size + 1, 0, none⟩) (by simp) _).setCell (p := ⟨w.heap.size + 1, 1, none⟩) (by simp) _).setCell (p := ⟨w.heap.size + 1 + 1, 0, none⟩) (by simp; omega) _,
    ((KeepsOthers.setCell _ _ _).trans (KeepsOthers.setCell _ _ _)).trans (KeepsOthers.setCell _ _ _)⟩
  · rw [World.cell?_setCell_other _ _ _ _ n1]; exact g1
  · rw [World.cell?_setCell_other _ _ _ _ n2]; exact g2
  · exact World.cell?_setCell_same _ _ _ (u := .bool false) (by rw [World.cell?_setCell_other _ _ _ _ n2.symm, World.cell?_setCell_other _ _ _ _ n1.symm]; exact c2)

def LostI (W1 : World) (k : Nat) (pre : List PW) (W : World) : Prop := (∀ p ∈ pre, bitB k p.1 = true) ∧ Below W1.heap.size W1 W
def LostX (w : World) (k : Nat) (c : Code) (pre : List PW) (W : World) : Prop :=
  (c = .ret ∧ ∃ ini last, pre = ini ++ [last] ∧ (∀ p ∈ ini, bitB k p.1 = true) ∧ bitB k last.1 = false ∧ W.cell? ⟨w.heap.size + 1, 0, none⟩ = some (.int .i64 last.2.1) ∧ W.cell? ⟨w.heap.size + 1, 1, none⟩ = some (.string last.2.2) ∧ W.cell? ⟨w.heap.size + 1 + 1, 0, none⟩ = some (.bool true)) ∧ Below w.heap.size w W
theorem lostI_own (W1 : World) (k : Nat) : OwnFrom W1.heap.size (LostI W1 k) :=
  OwnFrom.and (Own.from (fun _ _ _ _ hs _ _ => hs) _) (ownFrom_below (Nat.le_refl _) (Nat.le_refl _))
theorem lostX_own {w W1 : World} (h : Below w.heap.size w W1) (k : Nat) (c : Code) : OwnFrom W1.heap.size (LostX w k c) :=
  OwnFrom.and (Own.from (fun s A B row hs hg hr => by obtain ⟨hc, ini, last, e1, e2, e3, e4, e5, e6⟩ := hs; exact ⟨hc, ini, last, e1, e2, e3, cell_kept e4 hg hr, cell_kept e5 hg hr, cell_kept e6 hg hr⟩) _) (ownFrom_below (Nat.le_refl _) h.size)
theorem lostI_snoc {W1 : World} {k : Nat} {pre : List PW} {W : World} (h : LostI W1 k pre W) {x : PW} (hx : bitB k x.1 = true) : LostI W1 k (pre ++ [x]) W :=
  ⟨fun p hp => (List.mem_append.1 hp).elim (h.1 p) (fun e => by obtain rfl := List.mem_singleton.1 e; exact hx), h.2⟩
theorem lost_all {ws : List (Int × ByteArray)} {k : Nat} (h : ∀ p ∈ down ws 0, bitB k p.1 = true) : LastLost k ws.length none := fun _ hj => h _ (down_mem hj (Nat.zero_le _))
theorem lost_some {ws : List (Int × ByteArray)} {k r : Nat} (hr : r < ws.length) {ini : List PW} {last : PW} (e : down ws r = ini ++ [last]) (h : ∀ p ∈ ini, bitB k p.1 = true) (hl : bitB k last.1 = false) :
    LastLost k ws.length (some r) ∧ lostV ws (some r) = .tuple #[.agg #[.int .i64 last.2.1, .string last.2.2], .bool true] := by
  rw [down_step hr] at e
  obtain ⟨rfl, e5⟩ := List.append_inj' e rfl
  obtain rfl : (r, ws[r]) = last := by simpa using e5
  exact ⟨⟨hr, hl, fun _ hrj hj => h _ (down_mem hj (by omega))⟩, by simp [lostV, List.getD, List.getElem?_eq_getElem hr]⟩

set_option maxHeartbeats 2000000 in
set_option maxRecDepth 100000 in
theorem lastLost_any {vW : Value} {ws : List (Int × ByteArray)} {w : World} (hW : WRow w vW ws) (hl : ws.length ≤ 1000) (k : Nat) (hk : k < 18446744073709551616) : Calls Try.prog 43 #[vW, .int .u64 k] w (LostB k ws w) := by
  obtain ⟨aW, capW, rfl⟩ := hW.slice
  have HY := Lib.hid (LB.made w k)
  have HW := Lib.hid hW
  clear hW
  refine (callsIn_wide (n := 5)).1 ?_
  refine callsIn_of_wp_marks Try.func43 rfl trivial ?_ rfl
  simp only [Try.ntmps43, List.size_toArray, List.length_cons, List.length_nil, Nat.reduceAdd, Nat.reduceSub, Array.replicate_succ, Array.replicate_zero, List.push_toArray, List.append_toArray, List.nil_append, List.cons_append]
  gi_wp2_with fail
  refine ⟨trivial, (back_in Fence.wide _ trivial rfl _ _ _ _).mono ?_⟩
  rintro e z ⟨rfl, rfl⟩
  gi_wp2_with fail
  have hal : Below (lostW w k).heap.size (lostW w k) ((lostW w k).alloc (.cells #[.slice aW ws.length capW] 23)) := (Below.refl _ _).alloc (Nat.le_refl _) _
  have HG := Lib.hid (HY.out.below hal)
  have hbox := Cell1.made (lostW w k) (.slice aW ws.length capW) 23
  have hls : (lostW w k).heap.size = w.heap.size + 1 + 1 + 1 := by simp [lostW]
  rw [hls] at hbox
  have HWW := Lib.hid (HW.out.below HG.out.2.2.2)
  have hlow : ∀ g len cap, Value.slice aW ws.length capW = .slice (some ⟨g, 0, none⟩) len cap → g < ((lostW w k).alloc (.cells #[.slice aW ws.length capW] 23)).heap.size := by
    intro g len cap e
    rcases HWW.out with ⟨e', _⟩ | ⟨g', cap', e', _, hg, _⟩
    · rw [e] at e'; cases e'
    · rw [e] at e'; cases e'; exact hg
  clear hal hls
  change Code.wpIn _ _ _ _ _ _ ((lostW w k).alloc (.cells #[.slice aW ws.length capW] 23))
  generalize ((lostW w k).alloc (.cells #[.slice aW ws.length capW] 23)) = W1 at HG hbox HWW hlow ⊢
  refine wpIn_rangeFunc_ownH rfl (by omega) (gf := 70) (lb := #[.pointer (some ⟨w.heap.size + 1 + 1 + 1, 0, none⟩)]) rfl trivial (enters_of Try.func70 (by kernel_rfl) rfl)
    (back_stops Fence.wide _ trivial rfl (by omega) (w.heap.size + 1 + 1 + 1) W1.heap.size (.slice aW ws.length capW) ws hl W1 hbox.1 (Nat.le_refl _) hbox.2.1 HWW.out hlow) belowK_t (belowK_b (Nat.le_refl _)) (Below.refl _ _) (fun _ => rfl)
    (LostI W1 k) (LostX w k) (lostI_own W1 k) (lostX_own HG.out.2.2.2 k) ⟨by simp, Below.refl _ _⟩
    (fun x a' W => ∃ Bx, W1.heap.size ≤ Bx ∧ Two W Bx (.int .i64 x.2.1) (.string x.2.2) ∧ a' = { tmps := #[.slice aW ws.length capW, .int .u64 k, undef, .pointer (some ⟨w.heap.size, 0, none⟩), .pointer (some ⟨w.heap.size + 1, 0, none⟩), .pointer (some ⟨w.heap.size + 1 + 1, 0, none⟩), .int .i64 (x.1 : Int), .pointer (some ⟨Bx, 0, none⟩), .slice aW ws.length capW, .func (.func 70) #[] #[.pointer (some ⟨w.heap.size + 1 + 1 + 1, 0, none⟩)], .int .i64 (x.1 : Int), .agg #[.int .i64 x.2.1, .string x.2.2], undef, undef, undef, undef, undef, undef], defers := [] })
    (fun x a' => fun s A B row hs hg hr => by obtain ⟨Bx, e1, e2, e3⟩ := hs; exact ⟨Bx, e1, two_own (fun _ : Unit => (Value.int .i64 x.2.1)) (fun _ => (Value.string x.2.2)) Bx () A B row e2 hg (fun r e => (hr r e).2), e3⟩) ?assign ?body ?done ?stop
  case assign =>
    rintro l pre x W K hi hK
    simp only [encPW]
    gi_wp2
    exact hK _ _ ((KeepsOthers.alloc _ _).from _) ((Below.refl _ W).alloc hi.2.size _) ⟨hi.1, hi.2.alloc hi.2.size _⟩ ⟨W.heap.size, hi.2.size, World.alloc_heap_new W _, rfl⟩
  case body =>
    rintro l pre x a' W hl ⟨r, hr⟩ hp ⟨Bx, hBx, bX, rfl⟩ hlt
    have HP := Lib.hid hp
    have HGW := Lib.hid (HG.out.below hp.2)
    obtain ⟨⟨d0, d1, d2⟩, ⟨b0, b1, b2, b3, b4⟩, ⟨f0, f1, f2⟩, _⟩ := HGW.out
    have hx0 := bX.cell0
    have hx1 := bX.cell1
    clear hp
    obtain ⟨xi, xa, xd⟩ := x
    dsimp only at hx0 hx1 ⊢
    have HZ := Lib.hid (HGW.out.stored (.int .i64 xa) (.string xd) (.bool true))
    have HI := Lib.hid (fun W => isKept_any k xi hk W)
    by_cases hxa : bitB k xi = true
    · gi_wp2_with fail
      refine ⟨trivial, (CallsIn.inRound l (callsIn_wide.2 (HI.out _))).mono ?_⟩
      rintro e w2 ⟨rfl, rfl⟩
      rw [hxa]
      gi_wp2
      exact ⟨KeepsFrom.refl _ _, Below.refl _ _, lostI_snoc HP.out hxa⟩
    · have hxa' : bitB k xi = false := by simpa using hxa
      gi_wp2_with fail
      refine ⟨trivial, (CallsIn.inRound l (callsIn_wide.2 (HI.out _))).mono ?_⟩
      rintro e w2 ⟨rfl, rfl⟩
      rw [hxa']
      gi_wp2
      exact ⟨HZ.out.2.2.2.2.from _, ⟨rfl, pre, (xi, xa, xd), rfl, HP.out.1, hxa', HZ.out.1, HZ.out.2.1, HZ.out.2.2.1⟩, HZ.out.2.2.2.1⟩
  case done =>
    rintro D ys W hD rfl ⟨hne, hB⟩ hK
    have HGW := Lib.hid (HG.out.below hB)
    obtain ⟨⟨d0, d1, d2⟩, ⟨b0, b1, b2, b3, b4⟩, ⟨f0, f1, f2⟩, _⟩ := HGW.out
    have HNE := Lib.hid (lost_all hne)
    have HZ := Lib.hid (HGW.out.stored (.int .i64 0) (.string ⟨#[]⟩) (.bool false))
    clear hne hB
    gi_wp2
    obtain ⟨z1, z2, z3, z4, z5⟩ := HZ.out
    have hK' := z5.same D _ hK rfl
    refine ⟨by simp, .inl ⟨_, _, rfl, run_takeDeferred hK', ?_⟩⟩
    have y1 := cell_kept z1 (grownBy_putObj' _ D (.deferred none)) (fun r e => by cases e; exact ⟨_, hK', rfl⟩)
    have y2 := cell_kept z2 (grownBy_putObj' _ D (.deferred none)) (fun r e => by cases e; exact ⟨_, hK', rfl⟩)
    have y3 := cell_kept z3 (grownBy_putObj' _ D (.deferred none)) (fun r e => by cases e; exact ⟨_, hK', rfl⟩)
    refine ⟨lostV ws none, ?_, none, HNE.out, rfl, z4.trans (belowK_b (w := W1) HG.out.2.2.2.size _ D _ _ hD hK' rfl rfl)⟩
    unfold lostSt at y1 y2 y3
    simp [results, Try.results43, go_sem, y1, y2, y3, lostV]
  case stop =>
    rintro D c pre W hD ⟨r, hr, rfl⟩ ⟨⟨rfl, ini, last, e1, e2, e3, c1, c2, c3⟩, hB⟩ hK
    have HN := Lib.hid (lost_some hr e1 e2 e3)
    clear e1 e2 e3
    gi_wp2
    refine ⟨by simp, .inl ⟨_, _, rfl, run_takeDeferred hK, ?_⟩⟩
    have y1 := cell_kept c1 (grownBy_putObj' _ D (.deferred none)) (fun r e => by cases e; exact ⟨_, hK, rfl⟩)
    have y2 := cell_kept c2 (grownBy_putObj' _ D (.deferred none)) (fun r e => by cases e; exact ⟨_, hK, rfl⟩)
    have y3 := cell_kept c3 (grownBy_putObj' _ D (.deferred none)) (fun r e => by cases e; exact ⟨_, hK, rfl⟩)
    refine ⟨.tuple #[.agg #[.int .i64 last.2.1, .string last.2.2], .bool true], ?_, some r, HN.out.1, by rw [HN.out.2], hB.trans (belowK_b (w := W1) HG.out.2.2.2.size _ D _ _ hD hK rfl rfl)⟩
    simp [results, Try.results43, go_sem, y1, y2, y3]
end Go.Proofs.Ytndakbjmahkjdaa.Disk
