/-
  Contract of lastLost (package disk): the last of the writes whose bit is not set, if there is one.
-/
import Derived.Test.YthoeidgekogfiaaDiskGet
import Derived.Test.YthoeidgekogfiaaDiskBit
namespace Go.Proofs.Ythoeidgekogfiaa.Disk
open Go.ChangeShapes Go.WideShapes Go.ChangeAt Go.RowKit Go.Lib Go.Shelf
attribute [local go_sem] Oper.semAt_some

/-- The last of n whose bit is not set, if there is one. -/
def LastLost (k n : Nat) : Option Nat → Prop
  | none => ∀ j, j < n → bitB k j = true
  | some r => r < n ∧ bitB k r = false ∧ ∀ j, r < j → j < n → bitB k j = true
/-- What lastLost returns. -/
def lostV (ws : List (Int × ByteArray)) : Option Nat → Value
  | none => .tuple #[.agg #[.int .i64 0, .string ⟨#[]⟩], .bool false]
  | some r => .tuple #[.agg #[.int .i64 (ws.getD r (0, ⟨#[]⟩)).1, .string (ws.getD r (0, ⟨#[]⟩)).2], .bool true]
def LostB (k : Nat) (ws : List (Int × ByteArray)) (w : World) (e : Ending) (w' : World) : Prop := ∃ o, LastLost k ws.length o ∧ e = .returned (lostV ws o) ∧ Below w.heap.size w w'

/-- lastLost's own blocks. -/
def LB (w : World) (k : Nat) (W : World) : Prop :=
  Cell1 w.heap.size (.int .u64 k) W ∧ Box2 (w.heap.size + 1) (.int .i64 0) (.string ⟨#[]⟩) W ∧ Cell1 (w.heap.size + 1 + 1) (.bool false) W ∧ Below w.heap.size w W
theorem LB.below {w W W' : World} {k : Nat} (h : LB w k W) (hb : Below W.heap.size W W') : LB w k W' :=
  ⟨h.1.below hb, h.2.1.below hb, h.2.2.1.below hb, below_trans h.2.2.2 hb⟩
def lostW (w : World) (k : Nat) : World := ((w.alloc (.cells #[.int .u64 k] 26)).alloc (.cells #[.int .i64 0, .string ⟨#[]⟩] 43)).alloc (.cells #[.bool false] 4)
theorem LB.made (w : World) (k : Nat) : LB w k (lostW w k) := by
  have h1 : ∀ (W : World) o, Below W.heap.size W (W.alloc o) := fun W o => (Below.refl _ _).alloc (Nat.le_refl _) _
  have b1 := Cell1.made w (.int .u64 k) 26
  have b2 := Box2.made (w.alloc (.cells #[.int .u64 k] 26)) (.int .i64 0) (.string ⟨#[]⟩) 43
  have b3 := Cell1.made ((w.alloc (.cells #[.int .u64 k] 26)).alloc (.cells #[.int .i64 0, .string ⟨#[]⟩] 43)) (.bool false) 4
  simp only [World.size_alloc] at b2 b3
  exact ⟨(b1.below (h1 _ _)).below (h1 _ _), b2.below (h1 _ _), b3, below_trans (below_trans (h1 _ _) (h1 _ _)) (h1 _ _)⟩
/-- The world behind the stores into the results. -/
def lostSt (w W : World) (u0 u1 u2 : Value) : World := ((W.setCell ⟨w.heap.size + 1, 0, none⟩ u0).setCell ⟨w.heap.size + 1, 1, none⟩ u1).setCell ⟨w.heap.size + 1 + 1, 0, none⟩ u2
theorem LB.stored {w W : World} {k : Nat} (h : LB w k W) (u0 u1 u2 : Value) :
    (lostSt w W u0 u1 u2).cell? ⟨w.heap.size + 1, 0, none⟩ = some u0 ∧ (lostSt w W u0 u1 u2).cell? ⟨w.heap.size + 1, 1, none⟩ = some u1 ∧ (lostSt w W u0 u1 u2).cell? ⟨w.heap.size + 1 + 1, 0, none⟩ = some u2 ∧
    Below w.heap.size w (lostSt w W u0 u1 u2) ∧ KeepsOthers W (lostSt w W u0 u1 u2) := by
  obtain ⟨_, h2, ⟨_, c2, _⟩, hb⟩ := h
  obtain ⟨_, g1, g2, _⟩ := h2.set u0 u1
  have n1 : (⟨w.heap.size + 1 + 1, 0, none⟩ : Addr) ≠ ⟨w.heap.size + 1, 0, none⟩ := by simp
  have n2 : (⟨w.heap.size + 1 + 1, 0, none⟩ : Addr) ≠ ⟨w.heap.size + 1, 1, none⟩ := by simp
  unfold lostSt
  refine ⟨?_, ?_, ?_, ((hb.setCell (p := ⟨w.heap.size + 1, 0, none⟩) (by simp) _).setCell (p := ⟨w.heap.size + 1, 1, none⟩) (by simp) _).setCell (p := ⟨w.heap.size + 1 + 1, 0, none⟩) (by simp; omega) _,
    ((KeepsOthers.setCell _ _ _).trans (KeepsOthers.setCell _ _ _)).trans (KeepsOthers.setCell _ _ _)⟩
  · rw [World.cell?_setCell_other _ _ _ _ n1]; exact g1
  · rw [World.cell?_setCell_other _ _ _ _ n2]; exact g2
  · exact World.cell?_setCell_same _ _ _ (u := .bool false) (by rw [World.cell?_setCell_other _ _ _ _ n2.symm, World.cell?_setCell_other _ _ _ _ n1.symm]; exact c2)

def LostI (W1 : World) (k : Nat) (pre : List PW) (W : World) : Prop := (∀ p ∈ pre, bitB k p.1 = true) ∧ Below W1.heap.size W1 W
def LostX (w : World) (k : Nat) (c : Code) (pre : List PW) (W : World) : Prop :=
  (c = .ret ∧ ∃ ini last, pre = ini ++ [last] ∧ (∀ p ∈ ini, bitB k p.1 = true) ∧ bitB k last.1 = false ∧ W.cell? ⟨w.heap.size + 1, 0, none⟩ = some (.int .i64 last.2.1) ∧ W.cell? ⟨w.heap.size + 1, 1, none⟩ = some (.string last.2.2) ∧ W.cell? ⟨w.heap.size + 1 + 1, 0, none⟩ = some (.bool true)) ∧ Below w.heap.size w W
theorem lostI_own (W1 : World) (k : Nat) : OwnFrom W1.heap.size (LostI W1 k) :=
  OwnFrom.and (Own.from (fun _ _ _ _ hs _ _ => hs) _) (ownFrom_below (Nat.le_refl _) (Nat.le_refl _))
theorem lostX_own {w W1 : World} (h : Below w.heap.size w W1) (k : Nat) (c : Code) : OwnFrom W1.heap.size (LostX w k c) :=
  OwnFrom.and (Own.from (fun s A B row hs hg hr => by obtain ⟨hc, ini, last, e1, e2, e3, e4, e5, e6⟩ := hs; exact ⟨hc, ini, last, e1, e2, e3, cell_kept e4 hg hr, cell_kept e5 hg hr, cell_kept e6 hg hr⟩) _) (ownFrom_below (Nat.le_refl _) h.size)
theorem lostI_snoc {W1 : World} {k : Nat} {pre : List PW} {W : World} (h : LostI W1 k pre W) {x : PW} (hx : bitB k x.1 = true) : LostI W1 k (pre ++ [x]) W :=
  ⟨fun p hp => (List.mem_append.1 hp).elim (h.1 p) (fun e => by obtain rfl := List.mem_singleton.1 e; exact hx), h.2⟩
theorem lost_all {ws : List (Int × ByteArray)} {k : Nat} (h : ∀ p ∈ down ws 0, bitB k p.1 = true) : LastLost k ws.length none := fun _ hj => h _ (down_mem hj (Nat.zero_le _))
theorem lost_some {ws : List (Int × ByteArray)} {k r : Nat} (hr : r < ws.length) {ini : List PW} {last : PW} (e : down ws r = ini ++ [last]) (h : ∀ p ∈ ini, bitB k p.1 = true) (hl : bitB k last.1 = false) :
    LastLost k ws.length (some r) ∧ lostV ws (some r) = .tuple #[.agg #[.int .i64 last.2.1, .string last.2.2], .bool true] := by
  rw [down_step hr] at e
  obtain ⟨rfl, e5⟩ := List.append_inj' e rfl
  obtain rfl : (r, ws[r]) = last := by simpa using e5
  exact ⟨⟨hr, hl, fun _ hrj hj => h _ (down_mem hj (by omega))⟩, by simp [lostV, List.getD, List.getElem?_eq_getElem hr]⟩

set_option maxHeartbeats 2000000 in
set_option maxRecDepth 100000 in
theorem lastLost_any {vW : Value} {ws : List (Int × ByteArray)} {w : World} (hW : WRow w vW ws) (hl : ws.length ≤ 1000) (k : Nat) (hk : k < 18446744073709551616) : Calls Try.prog 26 #[vW, .int .u64 k] w (LostB k ws w) := by
  obtain ⟨aW, capW, rfl⟩ := hW.slice
  have HY := Lib.hid (LB.made w k)
  have HW := Lib.hid hW
  clear hW
  refine (callsIn_wide (n := 5)).1 ?_
  refine callsIn_of_wp_marks Try.func26 rfl trivial ?_ rfl
  simp only [Try.ntmps26, List.size_toArray, List.length_cons, List.length_nil, Nat.reduceAdd, Nat.reduceSub, Array.replicate_succ, Array.replicate_zero, List.push_toArray, List.append_toArray, List.nil_append, List.cons_append]
  gi_wp2_with fail
  refine ⟨trivial, (back_in Fence.wide _ trivial rfl _ _ _ _).mono ?_⟩
  rintro e z ⟨rfl, rfl⟩
  gi_wp2_with fail
  have hal : Below (lostW w k).heap.size (lostW w k) ((lostW w k).alloc (.cells #[.slice aW ws.length capW] 23)) := (Below.refl _ _).alloc (Nat.le_refl _) _
  have HG := Lib.hid (HY.out.below hal)
  have hbox := Cell1.made (lostW w k) (.slice aW ws.length capW) 23
  have hls : (lostW w k).heap.size = w.heap.size + 1 + 1 + 1 := by simp [lostW]
  rw [hls] at hbox
  have HWW := Lib.hid (HW.out.below HG.out.2.2.2)
  have hlow : ∀ g len cap, Value.slice aW ws.length capW = .slice (some ⟨g, 0, none⟩) len cap → g < ((lostW w k).alloc (.cells #[.slice aW ws.length capW] 23)).heap.size := by
    intro g len cap e
    rcases HWW.out with ⟨e', _⟩ | ⟨g', cap', e', _, hg, _⟩
    · rw [e] at e'; cases e'
    · rw [e] at e'; cases e'; exact hg
  clear hal hls
  change Code.wpIn _ _ _ _ _ _ ((lostW w k).alloc (.cells #[.slice aW ws.length capW] 23))
  generalize ((lostW w k).alloc (.cells #[.slice aW ws.length capW] 23)) = W1 at HG hbox HWW hlow ⊢
  refine wpIn_rangeFunc_ownH rfl (by omega) (gf := 36) (lb := #[.pointer (some ⟨w.heap.size + 1 + 1 + 1, 0, none⟩)]) rfl trivial (enters_of Try.func36 (by kernel_rfl) rfl)
    (back_stops Fence.wide _ trivial rfl (by omega) (w.heap.size + 1 + 1 + 1) W1.heap.size (.slice aW ws.length capW) ws hl W1 hbox.1 (Nat.le_refl _) hbox.2.1 HWW.out hlow) belowK_t (belowK_b (Nat.le_refl _)) (Below.refl _ _) (fun _ => rfl)
    (LostI W1 k) (LostX w k) (lostI_own W1 k) (lostX_own HG.out.2.2.2 k) ⟨by simp, Below.refl _ _⟩
    (fun x a' W => ∃ Bx, W1.heap.size ≤ Bx ∧ Two W Bx (.int .i64 x.2.1) (.string x.2.2) ∧ a' = { tmps := #[.slice aW ws.length capW, .int .u64 k, undef, .pointer (some ⟨w.heap.size, 0, none⟩), .pointer (some ⟨w.heap.size + 1, 0, none⟩), .pointer (some ⟨w.heap.size + 1 + 1, 0, none⟩), .int .i64 (x.1 : Int), .pointer (some ⟨Bx, 0, none⟩), .slice aW ws.length capW, .func (.func 36) #[] #[.pointer (some ⟨w.heap.size + 1 + 1 + 1, 0, none⟩)], .int .i64 (x.1 : Int), .agg #[.int .i64 x.2.1, .string x.2.2], undef, undef, undef, undef, undef, undef], defers := [] })
    (fun x a' => fun s A B row hs hg hr => by obtain ⟨Bx, e1, e2, e3⟩ := hs; exact ⟨Bx, e1, two_own (fun _ : Unit => (Value.int .i64 x.2.1)) (fun _ => (Value.string x.2.2)) Bx () A B row e2 hg (fun r e => (hr r e).2), e3⟩) ?assign ?body ?done ?stop
  case assign =>
    rintro l pre x W K hi hK
    simp only [encPW]
    gi_wp2
    exact hK _ _ ((KeepsOthers.alloc _ _).from _) ((Below.refl _ W).alloc hi.2.size _) ⟨hi.1, hi.2.alloc hi.2.size _⟩ ⟨W.heap.size, hi.2.size, World.alloc_heap_new W _, rfl⟩
  case body =>
    rintro l pre x a' W hl ⟨r, hr⟩ hp ⟨Bx, hBx, bX, rfl⟩ hlt
    have HP := Lib.hid hp
    have HGW := Lib.hid (HG.out.below hp.2)
    obtain ⟨⟨d0, d1, d2⟩, ⟨b0, b1, b2, b3, b4⟩, ⟨f0, f1, f2⟩, _⟩ := HGW.out
    have hx0 := bX.cell0
    have hx1 := bX.cell1
    clear hp
    obtain ⟨xi, xa, xd⟩ := x
    dsimp only at hx0 hx1 ⊢
    have HZ := Lib.hid (HGW.out.stored (.int .i64 xa) (.string xd) (.bool true))
    have HI := Lib.hid (fun W => isKept_any k xi hk W)
    by_cases hxa : bitB k xi = true
    · gi_wp2_with fail
      refine ⟨trivial, (CallsIn.inRound l (callsIn_wide.2 (HI.out _))).mono ?_⟩
      rintro e w2 ⟨rfl, rfl⟩
      rw [hxa]
      gi_wp2
      exact ⟨KeepsFrom.refl _ _, Below.refl _ _, lostI_snoc HP.out hxa⟩
    · have hxa' : bitB k xi = false := by simpa using hxa
      gi_wp2_with fail
      refine ⟨trivial, (CallsIn.inRound l (callsIn_wide.2 (HI.out _))).mono ?_⟩
      rintro e w2 ⟨rfl, rfl⟩
      rw [hxa']
      gi_wp2
      exact ⟨HZ.out.2.2.2.2.from _, ⟨rfl, pre, (xi, xa, xd), rfl, HP.out.1, hxa', HZ.out.1, HZ.out.2.1, HZ.out.2.2.1⟩, HZ.out.2.2.2.1⟩
  case done =>
    rintro D ys W hD rfl ⟨hne, hB⟩ hK
    have HGW := Lib.hid (HG.out.below hB)
    obtain ⟨⟨d0, d1, d2⟩, ⟨b0, b1, b2, b3, b4⟩, ⟨f0, f1, f2⟩, _⟩ := HGW.out
    have HNE := Lib.hid (lost_all hne)
    have HZ := Lib.hid (HGW.out.stored (.int .i64 0) (.string ⟨#[]⟩) (.bool false))
    clear hne hB
    gi_wp2
    obtain ⟨z1, z2, z3, z4, z5⟩ := HZ.out
    have hK' := z5.same D _ hK rfl
    refine ⟨by simp, .inl ⟨_, _, rfl, run_takeDeferred hK', ?_⟩⟩
    have y1 := cell_kept z1 (grownBy_putObj' _ D (.deferred none)) (fun r e => by cases e; exact ⟨_, hK', rfl⟩)
    have y2 := cell_kept z2 (grownBy_putObj' _ D (.deferred none)) (fun r e => by cases e; exact ⟨_, hK', rfl⟩)
    have y3 := cell_kept z3 (grownBy_putObj' _ D (.deferred none)) (fun r e => by cases e; exact ⟨_, hK', rfl⟩)
    refine ⟨lostV ws none, ?_, none, HNE.out, rfl, z4.trans (belowK_b (w := W1) HG.out.2.2.2.size _ D _ _ hD hK' rfl rfl)⟩
    unfold lostSt at y1 y2 y3
    simp [results, Try.results26, go_sem, y1, y2, y3, lostV]
  case stop =>
    rintro D c pre W hD ⟨r, hr, rfl⟩ ⟨⟨rfl, ini, last, e1, e2, e3, c1, c2, c3⟩, hB⟩ hK
    have HN := Lib.hid (lost_some hr e1 e2 e3)
    clear e1 e2 e3
    gi_wp2
    refine ⟨by simp, .inl ⟨_, _, rfl, run_takeDeferred hK, ?_⟩⟩
    have y1 := cell_kept c1 (grownBy_putObj' _ D (.deferred none)) (fun r e => by cases e; exact ⟨_, hK, rfl⟩)
    have y2 := cell_kept c2 (grownBy_putObj' _ D (.deferred none)) (fun r e => by cases e; exact ⟨_, hK, rfl⟩)
    have y3 := cell_kept c3 (grownBy_putObj' _ D (.deferred none)) (fun r e => by cases e; exact ⟨_, hK, rfl⟩)
    refine ⟨.tuple #[.agg #[.int .i64 last.2.1, .string last.2.2], .bool true], ?_, some r, HN.out.1, by rw [HN.out.2], hB.trans (belowK_b (w := W1) HG.out.2.2.2.size _ D _ _ hD hK rfl rfl)⟩
    simp [results, Try.results26, go_sem, y1, y2, y3]
end Go.Proofs.Ythoeidgekogfiaa.Disk
