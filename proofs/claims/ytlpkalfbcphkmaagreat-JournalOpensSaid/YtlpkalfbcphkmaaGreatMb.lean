/-
  Joined: DiskBit, DiskLost, DiskTear, DiskCrash.
-/
import Derived.Test.YtlpkalfbcphkmaaGreatMa
import Derived.Laws.Bits64b
import Derived.Laws.IdiomStrings
import Derived.Deep.RegionWith
import Derived.Deep.CutRange
import Derived.Deep.RegionHeld3
import Derived.Deep.Cut

/-
  Contracts of isKept (package disk) and of the reference's Kept: is a bit set?
-/
namespace Go.Proofs.YtlpkalfbcphkmaaGreat.Disk
open Go.ChangeShapes Go.WideShapes Go.ChangeAt Go.RowKit Go.Lib

/-- Is bit i of k set? -/
def bitB (k i : Nat) : Bool := decide (k / 2 ^ i % 2 = 1)

theorem beq_mod (y : Nat) : ((y : Int) % 2 == 1) = decide (y % 2 = 1) := by
  rw [Bool.eq_iff_iff]
  simp
  omega
theorem bit_and {k i : Nat} (hk : k < 18446744073709551616) : (bits BinOp.and IntKind.u64 ((k : Int) / 2 ^ i) 1 == 1) = bitB k i := by
  have hb : k / 2 ^ i < 18446744073709551616 := Nat.lt_of_le_of_lt (Nat.div_le_self _ _) hk
  have e : ((k : Int) / 2 ^ i) = ((k / 2 ^ i : Nat) : Int) := by simp
  rw [e]
  unfold bitB
  generalize k / 2 ^ i = y at hb
  have := bits_and_u64_nat y 1 hb (by omega)
  rw [Nat.and_one_is_mod] at this
  rw [show (1 : Int) = ((1 : Nat) : Int) from rfl, this, ← beq_mod]
  simp

theorem bit_min {k i : Nat} (hk : k < 18446744073709551616) : (bits BinOp.and IntKind.u64 ((k : Int) / 2 ^ min i 64) 1 == 1) = bitB k i := by
  rw [bit_and hk]
  by_cases h : i ≤ 64
  · rw [Nat.min_eq_left h]
  · rw [Nat.min_eq_right (by omega)]
    have e : k / 2 ^ i = 0 := Nat.div_eq_of_lt (Nat.lt_of_lt_of_le hk (Nat.pow_le_pow_right (by omega : 0 < 2) (by omega : 64 ≤ i)))
    have e' : k / 2 ^ 64 = 0 := Nat.div_eq_of_lt hk
    unfold bitB
    rw [e, e']

set_option maxRecDepth 100000 in
theorem isKept_any (k i : Nat) (hk : k < 18446744073709551616) (w : World) : Calls Tryz.prog 83 #[.int .u64 k, .int .i64 i] w fun e w' => e = .returned (.bool (bitB k i)) ∧ w = w' := by
  go_enter Tryz.func83, Tryz.ntmps83
  go_wp2
  go_ret
  exact ⟨ret_bool (bit_min hk), rfl⟩

set_option maxRecDepth 100000 in
theorem refKept_any (k i : Nat) (hk : k < 18446744073709551616) (hi : i < 64) (w : World) : Calls Tryz.prog 60 #[.int .u64 k, .int .i64 i] w fun e w' => e = .returned (.bool (bitB k i)) ∧ w = w' := by
  go_enter Tryz.func60, Tryz.ntmps60
  go_wp2
  go_loop [0, 5] (fun a j => ∃ q : Nat, q ≤ i ∧ j = .int .i64 q ∧ a = .int .u64 ((k / 2 ^ q : Nat) : Int)) (fun _ j => i - (Go.RowKit.intOf j).toNat)
  case atStart => exact ⟨0, Nat.zero_le _, rfl, by simp⟩
  case round =>
    obtain ⟨q, hq, rfl, rfl⟩ := hrel
    have hb : k / 2 ^ q < 18446744073709551616 := Nat.lt_of_le_of_lt (Nat.div_le_self _ _) hk
    by_cases hlt : q < i
    · have e1 : k / 2 ^ (q + 1) = k / 2 ^ q / 2 := by rw [Nat.pow_succ, Nat.div_div_eq_div_mul]
      have HE := Lib.hid e1
      clear e1
      generalize k / 2 ^ q = y at hb HE
      go_wp2
      go_round
      case rel => exact ⟨q + 1, by omega, by go_num, by rw [HE.out]; simp⟩
      case measure => simp [Go.RowKit.intOf]; omega
    · obtain rfl : q = i := by omega
      have HE : Hid (bitB k q = decide (k / 2 ^ q % 2 = 1)) := rfl
      generalize k / 2 ^ q = y at hb HE
      go_wp2
      go_ret
      exact ⟨ret_bool (by rw [HE.out]; exact beq_mod y), rfl⟩
end Go.Proofs.YtlpkalfbcphkmaaGreat.Disk

/-
  Contract of lastLost (package disk): the last of the writes whose bit is not set, if there is one.
-/
namespace Go.Proofs.YtlpkalfbcphkmaaGreat.Disk
open Go.ChangeShapes Go.WideShapes Go.ChangeAt Go.RowKit Go.Lib Go.Shelf
attribute [local go_sem] Oper.semAt_some

/-- The last of n whose bit is not set, if there is one. -/
def LastLost (k n : Nat) : Option Nat → Prop
  | none => ∀ j, j < n → bitB k j = true
  | some r => r < n ∧ bitB k r = false ∧ ∀ j, r < j → j < n → bitB k j = true
/-- What lastLost returns. -/
def lostV (ws : List (Int × ByteArray)) : Option Nat → Value
  | none => .tuple #[.agg #[.int .i64 0, .string ⟨#[]⟩], .bool false]
  | some r => .tuple #[.agg #[.int .i64 (ws.getD r (0, ⟨#[]⟩)).1, .string (ws.getD r (0, ⟨#[]⟩)).2], .bool true]
def LostB (k : Nat) (ws : List (Int × ByteArray)) (w : World) (e : Ending) (w' : World) : Prop := ∃ o, LastLost k ws.length o ∧ e = .returned (lostV ws o) ∧ Below w.heap.size w w'

/-- lastLost's own blocks. -/
def LB (w : World) (k : Nat) (W : World) : Prop :=
  Cell1 w.heap.size (.int .u64 k) W ∧ Box2 (w.heap.size + 1) (.int .i64 0) (.string ⟨#[]⟩) W ∧ Cell1 (w.heap.size + 1 + 1) (.bool false) W ∧ Below w.heap.size w W
theorem LB.below {w W W' : World} {k : Nat} (h : LB w k W) (hb : Below W.heap.size W W') : LB w k W' :=
  ⟨h.1.below hb, h.2.1.below hb, h.2.2.1.below hb, below_trans h.2.2.2 hb⟩
def lostW (w : World) (k : Nat) : World := ((w.alloc (.cells #[.int .u64 k] 51)).alloc (.cells #[.int .i64 0, .string ⟨#[]⟩] 59)).alloc (.cells #[.bool false] 4)
theorem LB.made (w : World) (k : Nat) : LB w k (lostW w k) := by
  have h1 : ∀ (W : World) o, Below W.heap.size W (W.alloc o) := fun W o => (Below.refl _ _).alloc (Nat.le_refl _) _
  have b1 := Cell1.made w (.int .u64 k) 51
  have b2 := Box2.made (w.alloc (.cells #[.int .u64 k] 51)) (.int .i64 0) (.string ⟨#[]⟩) 59
  have b3 := Cell1.made ((w.alloc (.cells #[.int .u64 k] 51)).alloc (.cells #[.int .i64 0, .string ⟨#[]⟩] 59)) (.bool false) 4
  simp only [World.size_alloc] at b2 b3
  exact ⟨(b1.below (h1 _ _)).below (h1 _ _), b2.below (h1 _ _), b3, below_trans (below_trans (h1 _ _) (h1 _ _)) (h1 _ _)⟩
/-- The world behind the stores into the results. -/
def lostSt (w W : World) (u0 u1 u2 : Value) : World := ((W.setCell ⟨w.heap.size + 1, 0, none⟩ u0).setCell ⟨w.heap.size + 1, 1, none⟩ u1).setCell ⟨w.heap.size + 1 + 1, 0, none⟩ u2
theorem LB.stored {w W : World} {k : Nat} (h : LB w k W) (u0 u1 u2 : Value) :
    (lostSt w W u0 u1 u2).cell? ⟨w.heap.size + 1, 0, none⟩ = some u0 ∧ (lostSt w W u0 u1 u2).cell? ⟨w.heap.size + 1, 1, none⟩ = some u1 ∧ (lostSt w W u0 u1 u2).cell? ⟨w.heap.size + 1 + 1, 0, none⟩ = some u2 ∧
    Below w.heap.size w (lostSt w W u0 u1 u2) ∧ KeepsOthers W (lostSt w W u0 u1 u2) := by
  obtain ⟨_, h2, ⟨_, c2, _⟩, hb⟩ := h
  obtain ⟨_, g1, g2, _⟩ := h2.set u0 u1
  have n1 : (⟨w.heap.size + 1 + 1, 0, none⟩ : Addr) ≠ ⟨w.heap.size + 1, 0, none⟩ := by simp
  have n2 : (⟨w.heap.size + 1 + 1, 0, none⟩ : Addr) ≠ ⟨w.heap.size + 1, 1, none⟩ := by simp
  unfold lostSt
  refine ⟨?_, ?_, ?_, ((hb.setCell (p := ⟨w.heap.size + 1, 0, none⟩) (by simp) _).setCell (p := ⟨w.heap.size + 1, 1, none⟩) (by simp) _).setCell (p := ⟨w.heap.size + 1 + 1, 0, none⟩) (by simp; omega) _,
    ((KeepsOthers.setCell _ _ _).trans (KeepsOthers.setCell _ _ _)).trans (KeepsOthers.setCell _ _ _)⟩
  · rw [World.cell?_setCell_other _ _ _ _ n1]; exact g1
  · rw [World.cell?_setCell_other _ _ _ _ n2]; exact g2
  · exact World.cell?_setCell_same _ _ _ (u := .bool false) (by rw [World.cell?_setCell_other _ _ _ _ n2.symm, World.cell?_setCell_other _ _ _ _ n1.symm]; exact c2)

def LostI (W1 : World) (k : Nat) (pre : List PW) (W : World) : Prop := (∀ p ∈ pre, bitB k p.1 = true) ∧ Below W1.heap.size W1 W
def LostX (w : World) (k : Nat) (c : Code) (pre : List PW) (W : World) : Prop :=
  (c = .ret ∧ ∃ ini last, pre = ini ++ [last] ∧ (∀ p ∈ ini, bitB k p.1 = true) ∧ bitB k last.1 = false ∧ W.cell? ⟨w.heap.size + 1, 0, none⟩ = some (.int .i64 last.2.1) ∧ W.cell? ⟨w.heap.size + 1, 1, none⟩ = some (.string last.2.2) ∧ W.cell? ⟨w.heap.size + 1 + 1, 0, none⟩ = some (.bool true)) ∧ Below w.heap.size w W
theorem lostI_own (W1 : World) (k : Nat) : OwnFrom W1.heap.size (LostI W1 k) :=
  OwnFrom.and (Own.from (fun _ _ _ _ hs _ _ => hs) _) (ownFrom_below (Nat.le_refl _) (Nat.le_refl _))
theorem lostX_own {w W1 : World} (h : Below w.heap.size w W1) (k : Nat) (c : Code) : OwnFrom W1.heap.size (LostX w k c) :=
  OwnFrom.and (Own.from (fun s A B row hs hg hr => by obtain ⟨hc, ini, last, e1, e2, e3, e4, e5, e6⟩ := hs; exact ⟨hc, ini, last, e1, e2, e3, cell_kept e4 hg hr, cell_kept e5 hg hr, cell_kept e6 hg hr⟩) _) (ownFrom_below (Nat.le_refl _) h.size)
theorem lostI_snoc {W1 : World} {k : Nat} {pre : List PW} {W : World} (h : LostI W1 k pre W) {x : PW} (hx : bitB k x.1 = true) : LostI W1 k (pre ++ [x]) W :=
  ⟨fun p hp => (List.mem_append.1 hp).elim (h.1 p) (fun e => by obtain rfl := List.mem_singleton.1 e; exact hx), h.2⟩
theorem lost_all {ws : List (Int × ByteArray)} {k : Nat} (h : ∀ p ∈ down ws 0, bitB k p.1 = true) : LastLost k ws.length none := fun _ hj => h _ (down_mem hj (Nat.zero_le _))
theorem lost_some {ws : List (Int × ByteArray)} {k r : Nat} (hr : r < ws.length) {ini : List PW} {last : PW} (e : down ws r = ini ++ [last]) (h : ∀ p ∈ ini, bitB k p.1 = true) (hl : bitB k last.1 = false) :
    LastLost k ws.length (some r) ∧ lostV ws (some r) = .tuple #[.agg #[.int .i64 last.2.1, .string last.2.2], .bool true] := by
  rw [down_step hr] at e
  obtain ⟨rfl, e5⟩ := List.append_inj' e rfl
  obtain rfl : (r, ws[r]) = last := by simpa using e5
  exact ⟨⟨hr, hl, fun _ hrj hj => h _ (down_mem hj (by omega))⟩, by simp [lostV, List.getD, List.getElem?_eq_getElem hr]⟩

set_option maxHeartbeats 2000000 in
set_option maxRecDepth 100000 in
theorem lastLost_any {vW : Value} {ws : List (Int × ByteArray)} {w : World} (hW : WRow w vW ws) (hl : ws.length ≤ 1000) (k : Nat) (hk : k < 18446744073709551616) : Calls Tryz.prog 84 #[vW, .int .u64 k] w (LostB k ws w) := by
  obtain ⟨aW, capW, rfl⟩ := hW.slice
  have HY := Lib.hid (LB.made w k)
  have HW := Lib.hid hW
  clear hW
  refine (callsIn_wide (n := 5)).1 ?_
  refine callsIn_of_wp_marks Tryz.func84 rfl trivial ?_ rfl
  simp only [Tryz.ntmps84, List.size_toArray, List.length_cons, List.length_nil, Nat.reduceAdd, Nat.reduceSub, Array.replicate_succ, Array.replicate_zero, List.push_toArray, List.append_toArray, List.nil_append, List.cons_append]
  gi_wp2_with fail
  refine ⟨trivial, (back_in Fence.wide _ trivial rfl _ _ _ _).mono ?_⟩
  rintro e z ⟨rfl, rfl⟩
  gi_wp2_with fail
  have hal : Below (lostW w k).heap.size (lostW w k) ((lostW w k).alloc (.cells #[.slice aW ws.length capW] 23)) := (Below.refl _ _).alloc (Nat.le_refl _) _
  have HG := Lib.hid (HY.out.below hal)
  have hbox := Cell1.made (lostW w k) (.slice aW ws.length capW) 23
  have hls : (lostW w k).heap.size = w.heap.size + 1 + 1 + 1 := by simp [lostW]
  rw [hls] at hbox
  have HWW := Lib.hid (HW.out.below HG.out.2.2.2)
  have hlow : ∀ g len cap, Value.slice aW ws.length capW = .slice (some ⟨g, 0, none⟩) len cap → g < ((lostW w k).alloc (.cells #[.slice aW ws.length capW] 23)).heap.size := by
    intro g len cap e
    rcases HWW.out with ⟨e', _⟩ | ⟨g', cap', e', _, hg, _⟩
    · rw [e] at e'; cases e'
    · rw [e] at e'; cases e'; exact hg
  clear hal hls
  change Code.wpIn _ _ _ _ _ _ ((lostW w k).alloc (.cells #[.slice aW ws.length capW] 23))
  generalize ((lostW w k).alloc (.cells #[.slice aW ws.length capW] 23)) = W1 at HG hbox HWW hlow ⊢
  refine wpIn_rangeFunc_ownH rfl (by omega) (gf := 113) (lb := #[.pointer (some ⟨w.heap.size + 1 + 1 + 1, 0, none⟩)]) rfl trivial (enters_of Tryz.func113 (by kernel_rfl) rfl)
    (back_stops Fence.wide _ trivial rfl (by omega) (w.heap.size + 1 + 1 + 1) W1.heap.size (.slice aW ws.length capW) ws hl W1 hbox.1 (Nat.le_refl _) hbox.2.1 HWW.out hlow) belowK_t (belowK_b (Nat.le_refl _)) (Below.refl _ _) (fun _ => rfl)
    (LostI W1 k) (LostX w k) (lostI_own W1 k) (lostX_own HG.out.2.2.2 k) ⟨by simp, Below.refl _ _⟩
    (fun x a' W => ∃ Bx, W1.heap.size ≤ Bx ∧ Two W Bx (.int .i64 x.2.1) (.string x.2.2) ∧ a' = { tmps := #[.slice aW ws.length capW, .int .u64 k, undef, .pointer (some ⟨w.heap.size, 0, none⟩), .pointer (some ⟨w.heap.size + 1, 0, none⟩), .pointer (some ⟨w.heap.size + 1 + 1, 0, none⟩), .int .i64 (x.1 : Int), .pointer (some ⟨Bx, 0, none⟩), .slice aW ws.length capW, .func (.func 113) #[] #[.pointer (some ⟨w.heap.size + 1 + 1 + 1, 0, none⟩)], .int .i64 (x.1 : Int), .agg #[.int .i64 x.2.1, .string x.2.2], undef, undef, undef, undef, undef, undef], defers := [] })
    (fun x a' => fun s A B row hs hg hr => by obtain ⟨Bx, e1, e2, e3⟩ := hs; exact ⟨Bx, e1, two_own (fun _ : Unit => (Value.int .i64 x.2.1)) (fun _ => (Value.string x.2.2)) Bx () A B row e2 hg (fun r e => (hr r e).2), e3⟩) ?assign ?body ?done ?stop
  case assign =>
    rintro l pre x W K hi hK
    simp only [encPW]
    gi_wp2
    exact hK _ _ ((KeepsOthers.alloc _ _).from _) ((Below.refl _ W).alloc hi.2.size _) ⟨hi.1, hi.2.alloc hi.2.size _⟩ ⟨W.heap.size, hi.2.size, World.alloc_heap_new W _, rfl⟩
  case body =>
    rintro l pre x a' W hl ⟨r, hr⟩ hp ⟨Bx, hBx, bX, rfl⟩ hlt
    have HP := Lib.hid hp
    have HGW := Lib.hid (HG.out.below hp.2)
    obtain ⟨⟨d0, d1, d2⟩, ⟨b0, b1, b2, b3, b4⟩, ⟨f0, f1, f2⟩, _⟩ := HGW.out
    have hx0 := bX.cell0
    have hx1 := bX.cell1
    clear hp
    obtain ⟨xi, xa, xd⟩ := x
    dsimp only at hx0 hx1 ⊢
    have HZ := Lib.hid (HGW.out.stored (.int .i64 xa) (.string xd) (.bool true))
    have HI := Lib.hid (fun W => isKept_any k xi hk W)
    by_cases hxa : bitB k xi = true
    · gi_wp2_with fail
      refine ⟨trivial, (CallsIn.inRound l (callsIn_wide.2 (HI.out _))).mono ?_⟩
      rintro e w2 ⟨rfl, rfl⟩
      rw [hxa]
      gi_wp2
      exact ⟨KeepsFrom.refl _ _, Below.refl _ _, lostI_snoc HP.out hxa⟩
    · have hxa' : bitB k xi = false := by simpa using hxa
      gi_wp2_with fail
      refine ⟨trivial, (CallsIn.inRound l (callsIn_wide.2 (HI.out _))).mono ?_⟩
      rintro e w2 ⟨rfl, rfl⟩
      rw [hxa']
      gi_wp2
      exact ⟨HZ.out.2.2.2.2.from _, ⟨rfl, pre, (xi, xa, xd), rfl, HP.out.1, hxa', HZ.out.1, HZ.out.2.1, HZ.out.2.2.1⟩, HZ.out.2.2.2.1⟩
  case done =>
    rintro D ys W hD rfl ⟨hne, hB⟩ hK
    have HGW := Lib.hid (HG.out.below hB)
    obtain ⟨⟨d0, d1, d2⟩, ⟨b0, b1, b2, b3, b4⟩, ⟨f0, f1, f2⟩, _⟩ := HGW.out
    have HNE := Lib.hid (lost_all hne)
    have HZ := Lib.hid (HGW.out.stored (.int .i64 0) (.string ⟨#[]⟩) (.bool false))
    clear hne hB
    gi_wp2
    obtain ⟨z1, z2, z3, z4, z5⟩ := HZ.out
    have hK' := z5.same D _ hK rfl
    refine ⟨by simp, .inl ⟨_, _, rfl, run_takeDeferred hK', ?_⟩⟩
    have y1 := cell_kept z1 (grownBy_putObj' _ D (.deferred none)) (fun r e => by cases e; exact ⟨_, hK', rfl⟩)
    have y2 := cell_kept z2 (grownBy_putObj' _ D (.deferred none)) (fun r e => by cases e; exact ⟨_, hK', rfl⟩)
    have y3 := cell_kept z3 (grownBy_putObj' _ D (.deferred none)) (fun r e => by cases e; exact ⟨_, hK', rfl⟩)
    refine ⟨lostV ws none, ?_, none, HNE.out, rfl, z4.trans (belowK_b (w := W1) HG.out.2.2.2.size _ D _ _ hD hK' rfl rfl)⟩
    unfold lostSt at y1 y2 y3
    simp [results, Tryz.results84, go_sem, y1, y2, y3, lostV]
  case stop =>
    rintro D c pre W hD ⟨r, hr, rfl⟩ ⟨⟨rfl, ini, last, e1, e2, e3, c1, c2, c3⟩, hB⟩ hK
    have HN := Lib.hid (lost_some hr e1 e2 e3)
    clear e1 e2 e3
    gi_wp2
    refine ⟨by simp, .inl ⟨_, _, rfl, run_takeDeferred hK, ?_⟩⟩
    have y1 := cell_kept c1 (grownBy_putObj' _ D (.deferred none)) (fun r e => by cases e; exact ⟨_, hK, rfl⟩)
    have y2 := cell_kept c2 (grownBy_putObj' _ D (.deferred none)) (fun r e => by cases e; exact ⟨_, hK, rfl⟩)
    have y3 := cell_kept c3 (grownBy_putObj' _ D (.deferred none)) (fun r e => by cases e; exact ⟨_, hK, rfl⟩)
    refine ⟨.tuple #[.agg #[.int .i64 last.2.1, .string last.2.2], .bool true], ?_, some r, HN.out.1, by rw [HN.out.2], hB.trans (belowK_b (w := W1) HG.out.2.2.2.size _ D _ _ hD hK rfl rfl)⟩
    simp [results, Tryz.results84, go_sem, y1, y2, y3]
end Go.Proofs.YtlpkalfbcphkmaaGreat.Disk

/-
  Contract of tear (package disk): a sector whose first bytes are another's; rows of bytes in a block of their own.
-/
namespace Go.Proofs.YtlpkalfbcphkmaaGreat.Disk
open Go.ChangeShapes Go.WideShapes Go.ChangeAt Go.RowKit Go.Lib

/-- Block g holds the bytes l, from its head on, and they may be written. -/
def BRow (g : Nat) (l : List UInt8) (w : World) : Prop := g < w.heap.size ∧ ∀ j b, l[j]? = some b → w.cell? ⟨g, j, none⟩ = some (.int .u8 (b.toNat : Int)) ∧ w.frozen? ⟨g, j, none⟩ = false
theorem BRow.at {g : Nat} {l : List UInt8} {w : World} (h : BRow g l w) {j : Nat} (hj : j < l.length) : w.cell? ⟨g, j, none⟩ = some (.int .u8 (l[j].toNat : Int)) ∧ w.frozen? ⟨g, j, none⟩ = false := h.2 j _ (List.getElem?_eq_getElem hj)

/-- '[]byte(s)'. -/
theorem BRow.made (s : ByteArray) (w : World) : ∃ (cap : Nat) (w0 : World), s.size ≤ cap ∧ (convert 9 41 (.string s)).run Tryz.prog w = .ok (.slice (some ⟨w.heap.size, 0, none⟩) s.size cap) w0 ∧ BRow w.heap.size s.data.toList w0 ∧ Below w.heap.size w w0 := by
  refine ⟨_, _, ?_, run_bytes_of_string w 9 41 5 s Tryz.underlying9 Tryz.underlying41 Tryz.underlying5, ⟨?_, fun j b hb => ?_⟩, ?_⟩
  · have := grownCap_ge w s.size 0 5
    omega
  · show w.heap.size < (w.drew.heap.push _).size
    simp
  · obtain ⟨hj, rfl⟩ := List.getElem?_eq_some_iff.1 hb
    constructor
    · have := World.cell?_alloc_mark w.drew (bytesRow s (grownCap w s.size 0 5)) 5 ((bytesRow s (grownCap w s.size 0 5)).size, (bytesRow s (grownCap w s.size 0 5)).size + 1) j
      rw [show w.drew.heap.size = w.heap.size from rfl] at this
      rw [this, bytesRow_at s _ j (by simpa using hj)]
      simp
    · have := World.frozen?_alloc_mark w.drew (bytesRow s (grownCap w s.size 0 5)) 5 (bytesRow s (grownCap w s.size 0 5)).size ((bytesRow s (grownCap w s.size 0 5)).size + 1) j
      rw [show w.drew.heap.size = w.heap.size from rfl] at this
      have hs : j < s.data.size := by simpa using hj
      have hb : s.data.size ≤ (bytesRow s (grownCap w s.size 0 5)).size := by unfold bytesRow; simp
      rw [this]
      simp
      omega
  · exact (Below.refl _ _).drew.alloc (Nat.le_refl _) _

/-- 'string(b)'. -/
theorem BRow.back {g n cap : Nat} {l : List UInt8} {w : World} (h : BRow g l w) (hn : l.length = n) : (convert 41 9 (.slice (some ⟨g, 0, none⟩) n cap)).run Tryz.prog w = .ok (.string ⟨l.toArray⟩) w := by
  subst hn
  refine run_convert_bytes_back w 41 9 5 ⟨g, 0, none⟩ cap l Tryz.underlying41 Tryz.underlying5 Tryz.underlying9 ?_
  intro j hj
  rw [addr_at]
  exact (h.at hj).1

/-- The bytes d over the head of the bytes l. -/
def over (d l : List UInt8) : List UInt8 := d ++ l.drop d.length
theorem over_len {d l : List UInt8} (h : d.length ≤ l.length) : (over d l).length = l.length := by simp [over]; omega
theorem over_at (d l : List UInt8) (j : Nat) : (over d l)[j]? = if j < d.length then d[j]? else l[j]? := by
  unfold over
  rw [List.getElem?_append]
  by_cases hd : j < d.length
  · rw [if_pos hd, if_pos hd]
  · rw [if_neg hd, if_neg hd, List.getElem?_drop]
    congr 1
    omega
theorem setCells_size (b : Nat) : ∀ (vs : List Value) (o : Nat) (w : World), (w.setCells b o vs).heap.size = w.heap.size
  | [], _, _ => rfl
  | v :: r, o, w => by rw [World.setCells, setCells_size b r]; simp
theorem BRow.copied {g : Nat} {l : List UInt8} {w : World} (h : BRow g l w) (d : List UInt8) (hd : d.length ≤ l.length) : BRow g (over d l) (w.setCells g 0 (d.map fun x => Value.int .u8 (x.toNat : Int))) := by
  refine ⟨by rw [setCells_size]; exact h.1, fun j b hb => ?_⟩
  rw [over_at] at hb
  rw [World.frozen?_setCells]
  by_cases c : j < d.length
  · rw [if_pos c] at hb
    have := World.cell?_setCells_in g (d.map fun x => Value.int .u8 (x.toNat : Int)) 0 w (fun i hi => by
      simp at hi
      rw [Nat.zero_add, (h.at (by omega)).1]; rfl) j (by simpa using c)
    rw [Nat.zero_add] at this
    refine ⟨?_, (h.at (by omega)).2⟩
    rw [this]
    obtain ⟨_, rfl⟩ := List.getElem?_eq_some_iff.1 hb
    simp
  · rw [if_neg c] at hb
    rw [World.cell?_setCells_out g _ 0 w _ (fun _ _ => .inr (by simp; omega))]
    exact h.2 j b hb

/-- A sector whose first n bytes are those of d. -/
def torn (s d : ByteArray) (n : Nat) : ByteArray := ⟨(over (d.data.toList.take n) s.data.toList).toArray⟩
theorem bytes_size (s : ByteArray) : s.data.toList.length = s.size := by rw [Array.length_toList]; rfl
theorem extract_list (s : ByteArray) (n : Nat) : (s.extract 0 n).data.toList = s.data.toList.take n := by simp [ByteArray.data_extract]
theorem torn_size {s d : ByteArray} {n : Nat} (h : n ≤ s.size) : (torn s d n).size = s.size := by
  have := bytes_size s
  have := over_len (d := d.data.toList.take n) (l := s.data.toList) (by simp; omega)
  unfold torn
  simp only [ByteArray.size, List.size_toArray]
  rw [this]; simp

/-- A text is returned; nothing that lay has turned. -/
def TextB (s : ByteArray) (w : World) (e : Ending) (w' : World) : Prop := e = .returned (.string s) ∧ Below w.heap.size w w'

set_option maxHeartbeats 1000000 in
set_option maxRecDepth 100000 in
theorem tear_any (s d : ByteArray) (n : Nat) (w : World) (hs : s.size = 64) (hd : d.size = 64) (h1 : 0 < n) (h2 : n < 64) : Calls Tryz.prog 85 #[.string s, .string d, .int .i64 n] w (TextB (torn s d n) w) := by
  obtain ⟨cap, w0, hcap, hconv, hrow, hbe⟩ := BRow.made s w
  have hds : (d.extract 0 n).size = n := by rw [ByteArray.size_extract]; omega
  have hsl := bytes_size s
  have hcp := run_copy_string (P := Tryz.prog) w0 41 9 3 5 w.heap.size 0 s.size cap (d.extract 0 n) Tryz.underlying41 (fun w => Tryz.sizeOf5 w) (by omega)
    (fun j hj => by rw [Nat.zero_add, (hrow.at (by omega)).1]; rfl) (fun j hj => by rw [Nat.zero_add]; exact (hrow.at (by omega)).2)
  have hrow' := hrow.copied (d.extract 0 n).data.toList (by rw [bytes_size]; omega)
  have hback := hrow'.back (n := s.size) (cap := cap) (by rw [over_len (by rw [bytes_size]; omega)]; omega)
  have HT : Hid ((⟨(over (d.extract 0 n).data.toList s.data.toList).toArray⟩ : ByteArray) = torn s d n) := by unfold Hid torn; rw [extract_list]
  have HB := Lib.hid (below_setCells (B := w.heap.size) (b := w.heap.size) (Nat.le_refl _) ((d.extract 0 n).data.toList.map fun x => Value.int .u8 (x.toNat : Int)) 0 w0 hbe)
  generalize (⟨(over (d.extract 0 n).data.toList s.data.toList).toArray⟩ : ByteArray) = r at hback HT
  generalize w0.setCells w.heap.size 0 ((d.extract 0 n).data.toList.map fun x => Value.int .u8 (x.toNat : Int)) = w1 at hcp hback HB
  rw [hs] at hconv hcp hback
  clear hrow hrow' hbe
  go_enter Tryz.func85, Tryz.ntmps85
  go_wp2_with (at_builtin; refine Lib.wpList_copy_run _ rfl _ _ 41 9 rfl _ _ rfl rfl hcp ?_)
  go_ret
  exact ⟨by rw [← HT.out]; rfl, HB.out⟩
end Go.Proofs.YtlpkalfbcphkmaaGreat.Disk

/-
  Contracts of Crash and Flush (package disk): the writes whose bits are set are kept, the last one that is not is torn.
-/
namespace Go.Proofs.YtlpkalfbcphkmaaGreat.Disk
open Go.ChangeShapes Go.WideShapes Go.ChangeAt Go.RowKit Go.Lib

/-- Write number k, or none. -/
def wat (ws : List (Int × ByteArray)) (k : Nat) : Int × ByteArray := ws.getD k (0, ⟨#[]⟩)
theorem wat_at {ws : List (Int × ByteArray)} {k : Nat} (h : k < ws.length) : wat ws k = ws[k] := by simp [wat, List.getD, List.getElem?_eq_getElem h]
/-- The sectors, those of the first k writes kept whose bits are set. -/
def keepTo (kp : Nat) (ls : List ByteArray) (ws : List (Int × ByteArray)) : Nat → List ByteArray
  | 0 => ls
  | k + 1 => if bitB kp k = true then (keepTo kp ls ws k).set (wat ws k).1.toNat (wat ws k).2 else keepTo kp ls ws k
theorem keepTo_len (kp : Nat) (ls : List ByteArray) (ws : List (Int × ByteArray)) : ∀ k, (keepTo kp ls ws k).length = ls.length
  | 0 => rfl
  | k + 1 => by
    unfold keepTo
    split
    · rw [List.length_set, keepTo_len kp ls ws k]
    · exact keepTo_len kp ls ws k
/-- The last of n whose bit is not set. -/
def lostO (kp : Nat) : Nat → Option Nat
  | 0 => none
  | n + 1 => if bitB kp n = true then lostO kp n else some n
theorem lostO_of {kp : Nat} : ∀ {n : Nat} {o : Option Nat}, LastLost kp n o → o = lostO kp n
  | 0, none, _ => rfl
  | 0, some r, h => by simp [LastLost] at h
  | n + 1, none, h => by
    have hn := h n (by omega)
    unfold lostO
    rw [if_pos hn]
    exact lostO_of (fun j hj => h j (by omega))
  | n + 1, some r, h => by
    obtain ⟨h1, h2, h3⟩ := h
    unfold lostO
    by_cases hr : r = n
    · subst hr; rw [if_neg (by rw [h2]; simp)]
    · rw [if_pos (h3 n (by omega) (by omega))]
      exact lostO_of ⟨by omega, h2, fun j hj hj' => h3 j hj (by omega)⟩
theorem lostO_lt {kp : Nat} : ∀ {n r : Nat}, lostO kp n = some r → r < n
  | n + 1, r, h => by
    unfold lostO at h
    split at h
    · have := lostO_lt h; omega
    · cases h; omega
/-- The sectors behind the crash. -/
def crashL (kp : Nat) (ls : List ByteArray) (ws : List (Int × ByteArray)) (t : Int) : List ByteArray :=
  match lostO kp ws.length with
  | none => keepTo kp ls ws ws.length
  | some r => if 0 < t ∧ t < 64 then (keepTo kp ls ws ws.length).set (wat ws r).1.toNat (torn ((keepTo kp ls ws ws.length).getD (wat ws r).1.toNat ⟨#[]⟩) (wat ws r).2 t.toNat) else keepTo kp ls ws ws.length

/-- A slice's block lies at B or behind it. -/
def From (B : Nat) (v : Value) : Prop := ∀ g o n cap, v = .slice (some ⟨g, o, none⟩) n cap → B ≤ g
theorem from_nil (B : Nat) : From B (.slice none 0 0) := fun _ _ _ _ h => by cases h
theorem from_some {B g n cap : Nat} (h : B ≤ g) : From B (.slice (some ⟨g, 0, none⟩) n cap) := fun _ _ _ _ e => by cases e; exact h
theorem From.mono {B C : Nat} {v : Value} (h : From B v) (hc : C ≤ B) : From C v := fun g o n cap e => Nat.le_trans hc (h g o n cap e)
/-- A disk in new blocks, and an error's number, are returned. -/
def DiskE (ls : List ByteArray) (ws : List (Int × ByteArray)) (k : Int) (w : World) (e : Ending) (w' : World) : Prop :=
  ∃ vS vW, e = .returned (.tuple #[.agg #[vS, vW], .int .i64 k]) ∧ (SRow w' vS ls ∧ From w.heap.size vS) ∧ (WRow w' vW ws ∧ From w.heap.size vW) ∧ Below w.heap.size w w'

theorem OwnS.at {B : Nat} {a : Option Addr} {n cap : Nat} {ls : List ByteArray} {w : World} (h : OwnS B (.slice a n cap) ls w) {i : Nat} (hi : i < ls.length) :
    ∃ g, a = some ⟨g, 0, none⟩ ∧ B ≤ g ∧ g < w.heap.size ∧ w.cell? ⟨g, i, none⟩ = some (.string ls[i]) ∧ w.frozen? ⟨g, i, none⟩ = false := by
  have hw := h
  obtain ⟨_, ⟨hv, h2⟩ | ⟨g, cap', cur, hv, hg, hh, hn, _, hc, _⟩⟩ := h
  · omega
  · cases hv
    have hlt : g < w.heap.size := (Array.getElem?_eq_some_iff.1 hh).1
    refine ⟨g, rfl, hg, hlt, ?_, ?_⟩
    · have := World.ownsRow.cells hw (g := g) rfl i (.string ls[i]) (scells_at hi)
      rwa [addr_at] at this
    · simp [World.frozen?, hh]
theorem OwnS.set {B g n cap : Nat} {ls : List ByteArray} {w : World} (h : OwnS B (.slice (some ⟨g, 0, none⟩) n cap) ls w) {i : Nat} (t : ByteArray) :
    OwnS B (.slice (some ⟨g, 0, none⟩) n cap) (ls.set i t) (w.setCell ⟨g, i, none⟩ (.string t)) := by
  obtain ⟨h0, ⟨hv, h2⟩ | ⟨g', cap', cur, hv, hg, hh, hn, hm, hc, ht⟩⟩ := h
  · cases hv
  · cases hv
    rw [Nat.mul_one] at ht
    refine ⟨by rw [scells_len, List.length_set]; omega, .inr ⟨g, cap, cur.setIfInBounds i (.string t), by rw [List.length_set], hg, ?_, by rw [List.length_set]; exact hn, hm, by simpa using hc, ?_⟩⟩
    · rw [setCell_eq_setRow w g i cur 9 (0, 0) (.string t) hh]
      exact setRow_heap w g cur _ 9 _ hh
    · rw [List.length_set, Nat.mul_one, Array.toList_setIfInBounds, List.take_set, ht]
      simp [scells, List.map_set]
theorem OwnS.below {B : Nat} {v : Value} {ls : List ByteArray} {w w' : World} (h : OwnS B v ls w) (hb : Below w.heap.size w w') : OwnS B v ls w' := by
  obtain ⟨h0, h1 | ⟨g, cap, cur, hv, hg, hh, hrest⟩⟩ := h
  · exact ⟨h0, .inl h1⟩
  · exact ⟨h0, .inr ⟨g, cap, cur, hv, hg, (hb.block g (Array.getElem?_eq_some_iff.1 hh).1).trans hh, hrest⟩⟩
theorem Box2.other {b g i : Nat} {c0 c1 : Value} {w : World} (h : Box2 b c0 c1 w) (hne : b ≠ g) (u : Value) : Box2 b c0 c1 (w.setCell ⟨g, i, none⟩ u) := by
  obtain ⟨h0, h1, h2, h3, h4⟩ := h
  have n0 : (⟨g, i, none⟩ : Addr) ≠ ⟨b, 0, none⟩ := by intro e; injection e; omega
  have n1 : (⟨g, i, none⟩ : Addr) ≠ ⟨b, 1, none⟩ := by intro e; injection e; omega
  refine ⟨by simpa using h0, ?_, ?_, ?_, ?_⟩
  · rw [World.cell?_setCell_other _ _ _ _ n0]; exact h1
  · rw [World.cell?_setCell_other _ _ _ _ n1]; exact h2
  · rw [World.frozen?_setCell]; exact h3
  · rw [World.frozen?_setCell]; exact h4

/-- The blocks of a function that takes a disk and returns one. -/
def D2 (w : World) (vS vW : Value) (W : World) : Prop := Box2 w.heap.size vS vW W ∧ Box2 (w.heap.size + 1) (.slice none 0 0) (.slice none 0 0) W ∧ Below w.heap.size w W
theorem D2.below {w W W' : World} {vS vW : Value} (h : D2 w vS vW W) (hb : Below W.heap.size W W') : D2 w vS vW W' := ⟨h.1.below hb, h.2.1.below hb, below_trans h.2.2 hb⟩
def d2W (w : World) (vS vW : Value) : World := (w.alloc (.cells #[vS, vW] 25)).alloc (.cells #[.slice none 0 0, .slice none 0 0] 25)
theorem D2.made (w : World) (vS vW : Value) : D2 w vS vW (d2W w vS vW) := by
  have h1 : ∀ (W : World) o, Below W.heap.size W (W.alloc o) := fun W o => (Below.refl _ _).alloc (Nat.le_refl _) _
  have b1 := Box2.made w vS vW 25
  have b2 := Box2.made (w.alloc (.cells #[vS, vW] 25)) (.slice none 0 0) (.slice none 0 0) 25
  simp only [World.size_alloc] at b2
  exact ⟨b1.below (h1 _ _), b2, below_trans (h1 _ _) (h1 _ _)⟩
def d2St (w W : World) (u0 u1 : Value) : World := (W.setCell ⟨w.heap.size + 1, 0, none⟩ u0).setCell ⟨w.heap.size + 1, 1, none⟩ u1
theorem D2.stored {w W : World} {vS vW : Value} (h : D2 w vS vW W) (u0 u1 : Value) :
    Box2 (w.heap.size + 1) u0 u1 (d2St w W u0 u1) ∧ Below w.heap.size w (d2St w W u0 u1) :=
  ⟨h.2.1.set u0 u1, (h.2.2.setCell (p := ⟨w.heap.size + 1, 0, none⟩) (by simp) _).setCell (p := ⟨w.heap.size + 1, 1, none⟩) (by simp) _⟩
theorem SRow.setBelow {w : World} {b i : Nat} {v u : Value} {ls : List ByteArray} (h : SRow w v ls) (hne : ∀ g n cap, v = .slice (some ⟨g, 0, none⟩) n cap → g ≠ b) : SRow (w.setCell ⟨b, i, none⟩ u) v ls := by
  rcases h with h | ⟨g, cap, rfl, hc, hg, hcell⟩
  · exact .inl h
  · have hn := hne g _ _ rfl
    exact .inr ⟨g, cap, rfl, hc, by simpa using hg, fun j hj => by
      rw [World.cell?_setCell_other _ _ _ _ (by intro e; injection e; omega)]; exact hcell j hj⟩
theorem OwnS.setBelow {w : World} {B b i : Nat} {v u : Value} {ls : List ByteArray} (h : OwnS B v ls w) (hb : b < B) : OwnS B v ls (w.setCell ⟨b, i, none⟩ u) := by
  obtain ⟨h0, h1 | ⟨g, cap, cur, hv, hg, hh, hrest⟩⟩ := h
  · exact ⟨h0, .inl h1⟩
  · exact ⟨h0, .inr ⟨g, cap, cur, hv, hg, (Below.heap_setCell _ _ _ g (by simp; omega)).trans hh, hrest⟩⟩

set_option maxHeartbeats 1000000 in
set_option maxRecDepth 100000 in
theorem Crash_bad {vS vW : Value} {ls : List ByteArray} {ws : List (Int × ByteArray)} {w : World} (hS : SRow w vS ls) (hW : WRow w vW ws) (hr : smallP ls ws) (hb : rightB ls ws = false) (kp : Nat) (t : Int) : Calls Tryz.prog 57 #[.agg #[vS, vW], .int .u64 kp, .int .i64 t] w (DiskE [] [] 1 w) := by
  have HR := Lib.hid (fun W (h : Below w.heap.size w W) => hb ▸ Right_any (hS.below h) (hW.below h) hr)
  obtain ⟨aS, cap, rfl⟩ := hS.slice
  obtain ⟨aW, capW, rfl⟩ := hW.slice
  have HD := Lib.hid (D2.made w (.slice aS ls.length cap) (.slice aW ws.length capW))
  clear hS hW
  go_enter Tryz.func57, Tryz.ntmps57
  go_wp2_with fail
  refine (HR.out _ HD.out.2.2).mono ?_
  rintro e x ⟨rfl, hx⟩
  have HX := Lib.hid (HD.out.below hx)
  obtain ⟨⟨b0, b1, b2, b3, b4⟩, ⟨d0, d1, d2, d3, d4⟩, _⟩ := HX.out
  have HZ := Lib.hid (HX.out.stored (.slice none 0 0) (.slice none 0 0))
  clear hx HD
  go_wp2_with fail
  obtain ⟨⟨z0, z1, z2, _⟩, zb⟩ := HZ.out
  unfold d2St at z1 z2
  exact bodyPost_ret (v := .tuple #[.agg #[.slice none 0 0, .slice none 0 0], .int .i64 1]) (by simp [results, Tryz.results57, go_sem, z1, z2]) rfl ⟨_, _, rfl, ⟨.inl ⟨rfl, rfl⟩, from_nil _⟩, ⟨.inl ⟨rfl, rfl⟩, from_nil _⟩, zb⟩

/-- What holds at the head of Crash's loop. -/
def Keeping (w : World) (B kp : Nat) (vS vW : Value) (v : Value) (ls : List ByteArray) (ws : List (Int × ByteArray)) (i : Value) (wr : World) : Prop :=
  ∃ k : Nat, k ≤ ws.length ∧ i = .int .i64 k ∧ D2 w vS vW wr ∧ OwnS B v (keepTo kp ls ws k) wr

theorem keep_step {w wr : World} {B g cap n kp : Nat} {vS vW : Value} {ls : List ByteArray} {ws : List (Int × ByteArray)} {k a : Nat} {d : ByteArray} (hB : w.heap.size + 1 < B) (hg : B ≤ g)
    (hD : D2 w vS vW wr) (hO : OwnS B (.slice (some ⟨g, 0, none⟩) n cap) (keepTo kp ls ws k) wr) (hk : k < ws.length) (ha : ws[k] = ((a : Int), d)) (hb : bitB kp k = true) (o : Obj) :
    D2 w vS vW ((wr.setCell ⟨g, a, none⟩ (.string d)).alloc o) ∧ OwnS B (.slice (some ⟨g, 0, none⟩) n cap) (keepTo kp ls ws (k + 1)) ((wr.setCell ⟨g, a, none⟩ (.string d)).alloc o) := by
  have h1 : ∀ (W : World) o, Below W.heap.size W (W.alloc o) := fun W o => (Below.refl _ _).alloc (Nat.le_refl _) _
  have e : keepTo kp ls ws (k + 1) = (keepTo kp ls ws k).set a d := by
    show (if bitB kp k = true then _ else _) = _
    rw [if_pos hb, wat_at hk, ha]
    rfl
  rw [e]
  refine ⟨D2.below ⟨hD.1.other (by omega) _, hD.2.1.other (by omega) _, hD.2.2.setCell (p := ⟨g, a, none⟩) (by simp; omega) _⟩ (h1 _ _), (hO.set d).below (h1 _ _)⟩

/-- Behind tear, and the store of what it returned. -/
theorem tear_step {w X x2 : World} {B g zb cap n a : Nat} {vS vW c0 c1 : Value} {L : List ByteArray} {r : ByteArray} (hB : w.heap.size + 1 < B) (hg : B ≤ g) (hgz : g ≠ zb) (hX : Box2 zb c0 c1 X) (hD : D2 w vS vW X)
    (hO : OwnS B (.slice (some ⟨g, 0, none⟩) n cap) L X) (ha : a < L.length) (hx : Below X.drew.heap.size X.drew x2) :
    (x2.cell? ⟨zb, 0, none⟩ = some c0 ∧ x2.cell? ⟨zb, 1, none⟩ = some c1 ∧ g < x2.heap.size ∧ x2.cell? ⟨g, a, none⟩ = some (.string L[a]) ∧ x2.frozen? ⟨g, a, none⟩ = false ∧
      (x2.setCell ⟨g, a, none⟩ (.string r)).cell? ⟨zb, 0, none⟩ = some c0 ∧ (x2.setCell ⟨g, a, none⟩ (.string r)).cell? ⟨zb, 1, none⟩ = some c1) ∧
    D2 w vS vW (x2.setCell ⟨g, a, none⟩ (.string r)) ∧ OwnS B (.slice (some ⟨g, 0, none⟩) n cap) (L.set a r) (x2.setCell ⟨g, a, none⟩ (.string r)) := by
  have h : Below X.heap.size X x2 := below_trans ((Below.refl _ X).drew) hx
  have h1 := hX.below h
  have h2 := hD.below h
  have h3 := hO.below h
  have h4 := h1.other (i := a) (g := g) (Ne.symm hgz) (.string r)
  obtain ⟨g', e, _, hg2, hc, hf⟩ := h3.at ha
  cases e
  exact ⟨⟨h1.2.1, h1.2.2.1, hg2, hc, hf, h4.2.1, h4.2.2.1⟩, ⟨h2.1.other (by omega) _, h2.2.1.other (by omega) _, h2.2.2.setCell (p := ⟨g, a, none⟩) (by simp; omega) _⟩, h3.set r⟩

theorem keepTo_size {kp : Nat} {ls : List ByteArray} {ws : List (Int × ByteArray)} (hP : rightP ls ws) : ∀ (k : Nat) {a : Nat} (_ : k ≤ ws.length) (h : a < (keepTo kp ls ws k).length), ((keepTo kp ls ws k)[a]).size = 64
  | 0, a, _, h => hP.2.2.2.1 a h
  | k + 1, a, hk, h => by
    have hk' : k < ws.length := by omega
    by_cases hb : bitB kp k = true
    · have e : keepTo kp ls ws (k + 1) = (keepTo kp ls ws k).set (wat ws k).1.toNat (wat ws k).2 := if_pos hb
      have h' : a < ((keepTo kp ls ws k).set (wat ws k).1.toNat (wat ws k).2).length := by rw [← e]; exact h
      have e2 : (keepTo kp ls ws (k + 1))[a] = ((keepTo kp ls ws k).set (wat ws k).1.toNat (wat ws k).2)[a] := by simp only [e]
      rw [e2, List.getElem_set]
      split
      · rw [wat_at hk']; exact (hP.2.2.2.2 k hk').2.2
      · exact keepTo_size hP k (by omega) _
    · have e : keepTo kp ls ws (k + 1) = keepTo kp ls ws k := if_neg hb
      have e2 : (keepTo kp ls ws (k + 1))[a] = (keepTo kp ls ws k)[a]'(by rw [← e]; exact h) := by simp only [e]
      rw [e2]
      exact keepTo_size hP k (by omega) _

theorem skip_step {w wr : World} {B kp : Nat} {vS vW v : Value} {ls : List ByteArray} {ws : List (Int × ByteArray)} {k : Nat}
    (hD : D2 w vS vW wr) (hO : OwnS B v (keepTo kp ls ws k) wr) (hb : ¬ bitB kp k = true) (o : Obj) :
    D2 w vS vW (wr.alloc o) ∧ OwnS B v (keepTo kp ls ws (k + 1)) (wr.alloc o) := by
  have h1 : Below wr.heap.size wr (wr.alloc o) := (Below.refl _ _).alloc (Nat.le_refl _) _
  have e : keepTo kp ls ws (k + 1) = keepTo kp ls ws k := by
    show (if bitB kp k = true then _ else _) = _
    rw [if_neg hb]
  rw [e]
  exact ⟨hD.below h1, hO.below h1⟩

theorem crash_end0 {w z : World} {B : Nat} {vS vW v : Value} {L : List ByteArray} (hB : w.heap.size + 1 < B) (hD : D2 w vS vW z) (hO : OwnS B v L z) :
    w.heap.size + 1 < (d2St w z v (.slice none 0 0)).heap.size ∧ (d2St w z v (.slice none 0 0)).cell? ⟨w.heap.size + 1, 0, none⟩ = some v ∧ (d2St w z v (.slice none 0 0)).cell? ⟨w.heap.size + 1, 1, none⟩ = some (.slice none 0 0) ∧
    SRow (d2St w z v (.slice none 0 0)) v L ∧ Below w.heap.size w (d2St w z v (.slice none 0 0)) := by
  obtain ⟨⟨c0, c1, c2, _⟩, hbe⟩ := hD.stored v (.slice none 0 0)
  exact ⟨c0, c1, c2, OwnS.row ((hO.setBelow (b := w.heap.size + 1) hB).setBelow (b := w.heap.size + 1) hB), hbe⟩
theorem crash_end {w z : World} {B : Nat} {vS vW v : Value} {L : List ByteArray} (hB : w.heap.size + 1 < B) (hD : D2 w vS vW z) (hO : OwnS B v L z) (o : Obj) :
    w.heap.size + 1 < ((d2St w z v (.slice none 0 0)).alloc o).heap.size ∧ ((d2St w z v (.slice none 0 0)).alloc o).cell? ⟨w.heap.size + 1, 0, none⟩ = some v ∧ ((d2St w z v (.slice none 0 0)).alloc o).cell? ⟨w.heap.size + 1, 1, none⟩ = some (.slice none 0 0) ∧
    SRow ((d2St w z v (.slice none 0 0)).alloc o) v L ∧ Below w.heap.size w ((d2St w z v (.slice none 0 0)).alloc o) := by
  have h1 : ∀ (W : World) o, Below W.heap.size W (W.alloc o) := fun W o => (Below.refl _ _).alloc (Nat.le_refl _) _
  obtain ⟨hb, hbe⟩ := hD.stored v (.slice none 0 0)
  obtain ⟨c0, c1, c2, _⟩ := hb.below (h1 _ o)
  exact ⟨c0, c1, c2, (OwnS.row ((hO.setBelow (b := w.heap.size + 1) hB).setBelow (b := w.heap.size + 1) hB)).below (h1 _ _), below_trans hbe (h1 _ _)⟩

/-- Behind the tear. -/
def TornB (w : World) (B : Nat) (vS vW v : Value) (L : List ByteArray) (W : World) : Prop := D2 w vS vW W ∧ OwnS B v L W

set_option maxHeartbeats 4000000 in
set_option maxRecDepth 100000 in
theorem Crash_yes {vS vW : Value} {ls : List ByteArray} {ws : List (Int × ByteArray)} {w : World} (hS : SRow w vS ls) (hW : WRow w vW ws) (hb : rightB ls ws = true) (kp : Nat) (hkp : kp < 18446744073709551616) (t : Int) : Calls Tryz.prog 57 #[.agg #[vS, vW], .int .u64 kp, .int .i64 t] w (DiskE (crashL kp ls ws t) [] 0 w) := by
  have hP := rightB_t.1 hb
  have hr : smallP ls ws := ⟨by have := hP.2.1; omega, by have := hP.2.2.1; omega, fun j h => by rw [hP.2.2.2.1 j h]; omega, fun j h => by rw [(hP.2.2.2.2 j h).2.2]; omega⟩
  have HR := Lib.hid (fun W (h : Below w.heap.size w W) => hb ▸ Right_any (hS.below h) (hW.below h) hr)
  have HC := Lib.hid (fun W (h : Below w.heap.size w W) => CloneS_any (hS.below h) hr.1)
  have HL := Lib.hid (fun W (h : Below w.heap.size w W) => lastLost_any (hW.below h) hr.2.1 kp hkp)
  obtain ⟨aS, cap, rfl⟩ := hS.slice
  obtain ⟨aW, capW, rfl⟩ := hW.slice
  have HD := Lib.hid (D2.made w (.slice aS ls.length cap) (.slice aW ws.length capW))
  have HW := Lib.hid hW
  have HP := Lib.hid hP
  have hl1 := hP.1
  have hl2 := hP.2.1
  have hl3 := hP.2.2.1
  clear hS hW hP
  go_enter Tryz.func57, Tryz.ntmps57
  go_wp2_with fail
  refine (HR.out _ HD.out.2.2).mono ?_
  rintro e x ⟨rfl, hx⟩
  have HX := Lib.hid (HD.out.below hx)
  obtain ⟨⟨b0, b1, b2, b3, b4⟩, ⟨d0, d1, d2, d3, d4⟩, _⟩ := HX.out
  clear hx HD
  go_wp2_with fail
  refine (HC.out _ HX.out.2.2).mono ?_
  rintro e y ⟨v, rfl, hown, hy⟩
  obtain ⟨av, capv, rfl⟩ := hown.row.slice
  obtain ⟨g, rfl, hgB, hgy, _, _⟩ := hown.at (i := 0) (by omega)
  have HY := Lib.hid (HX.out.below hy)
  have HO := Lib.hid hown
  clear b0 b1 b2 b3 b4 d0 d1 d2 d3 d4 hown
  have hB : w.heap.size + 1 < x.heap.size := HX.out.2.1.1
  generalize x.heap.size = B at hB hgB HO
  clear HX hy
  obtain ⟨⟨b0, b1, b2, b3, b4⟩, ⟨d0, d1, d2, d3, d4⟩, _⟩ := HY.out
  go_wp2_with fail
  go_loopw [23] (fun i wr => Keeping w B kp (.slice aS ls.length cap) (.slice aW ws.length capW) (.slice (some ⟨g, 0, none⟩) ls.length capv) ls ws i wr) (fun i _ => ws.length - (RowKit.intOf i).toNat)
  case atStart => exact ⟨0, Nat.zero_le _, rfl, HY.out, HO.out⟩
  case round =>
    obtain ⟨k, hk, rfl, hD, hO⟩ := hrel
    clear b0 b1 b2 b3 b4 d0 d1 d2 d3 d4 HY HO
    have HD := Lib.hid hD
    have HO := Lib.hid hO
    obtain ⟨⟨b0, b1, b2, b3, b4⟩, ⟨d0, d1, d2, d3, d4⟩, hbe⟩ := hD
    clear hO
    by_cases hlt : k < ws.length
    · obtain ⟨gw, rfl, hcw, hgw, c1, c2⟩ := (HW.out.below hbe).at hlt
      obtain ⟨y1, y2, y3⟩ := HP.out.2.2.2.2 k hlt
      obtain ⟨a, d, ha⟩ : ∃ (a : Nat) (d : ByteArray), ws[k] = ((a : Int), d) := ⟨ws[k].1.toNat, ws[k].2, by rw [Int.toNat_of_nonneg y1]⟩
      have HA := Lib.hid ha
      rw [ha] at c1 c2 y1 y2 y3
      dsimp only at c1 c2 y1 y2 y3
      have hal : a < ls.length := by omega
      obtain ⟨g', e, _, hgr, cg, fg⟩ := HO.out.at (i := a) (by rw [keepTo_len]; exact hal)
      cases e
      have HI := Lib.hid (fun W => isKept_any kp k hkp W)
      clear hbe ha
      generalize (keepTo kp ls ws k)[a]'(by rw [keepTo_len]; exact hal) = old at cg
      by_cases hbit : bitB kp k = true
      · have HS := Lib.hid (keep_step hB hgB HD.out HO.out hlt HA.out hbit (.cells #[.int .i64 a, .string d] 59))
        go_wp2_with (go_at_call 83; refine (HI.out _).mono ?_; rintro e w2 ⟨rfl, rfl⟩; rw [hbit])
        go_roundw
        case rel => exact ⟨k + 1, by omega, by go_num, HS.out⟩
        case measure => simp [RowKit.intOf]; omega
      · have HS := Lib.hid (skip_step HD.out HO.out hbit (.cells #[.int .i64 a, .string d] 59))
        go_wp2_with (go_at_call 83; refine (HI.out _).mono ?_; rintro e w2 ⟨rfl, rfl⟩; rw [Bool.eq_false_iff.2 hbit])
        go_roundw
        case rel => exact ⟨k + 1, by omega, by go_num, HS.out⟩
        case measure => simp [RowKit.intOf]; omega
    · obtain rfl : k = ws.length := by omega
      have HBE := Lib.hid hbe
      clear hbe
      go_wp2_with fail
      refine (HL.out _ HBE.out).mono ?_
      rintro e z ⟨o, ho, rfl, hz⟩
      obtain rfl := lostO_of ho
      have HDz := Lib.hid (HD.out.below hz)
      have HOz := Lib.hid (HO.out.below hz)
      clear b0 b1 b2 b3 b4 d0 d1 d2 d3 d4 hz HD HO HBE ho
      obtain ⟨⟨b0, b1, b2, b3, b4⟩, ⟨d0, d1, d2, d3, d4⟩, hbe⟩ := HDz.out
      rcases hlo : lostO kp ws.length with _ | r
      · have HL2 : Hid (crashL kp ls ws t = keepTo kp ls ws ws.length) := by unfold Hid crashL; rw [hlo]
        unfold lostV
        dsimp only
        have HE := Lib.hid (crash_end hB HDz.out HOz.out (.cells #[.int .i64 0, .string ⟨#[]⟩] 59))
        go_wp2_with fail
        obtain ⟨z0, z1, z2, z3, z4⟩ := HE.out
        unfold d2St at z0 z1 z2
        exact bodyPost_ret (v := .tuple #[.agg #[.slice (some ⟨g, 0, none⟩) ls.length capv, .slice none 0 0], .int .i64 0]) (by simp [results, Tryz.results57, go_sem, z1, z2]) rfl ⟨_, _, rfl, ⟨by rw [HL2.out]; exact z3, from_some (by omega)⟩, ⟨.inl ⟨rfl, rfl⟩, from_nil _⟩, z4⟩
      · have hrl : r < ws.length := lostO_lt hlo
        obtain ⟨y1, y2, y3⟩ := HP.out.2.2.2.2 r hrl
        obtain ⟨a, d, ha⟩ : ∃ (a : Nat) (d : ByteArray), wat ws r = ((a : Int), d) := ⟨ws[r].1.toNat, ws[r].2, by rw [Int.toNat_of_nonneg y1, wat_at hrl]⟩
        have ha' := ha
        rw [wat_at hrl] at ha'
        rw [ha'] at y1 y2 y3
        dsimp only at y1 y2 y3
        have hal : a < ls.length := by omega
        have hV : lostV ws (some r) = .tuple #[.agg #[.int .i64 a, .string d], .bool true] := by
          show Value.tuple #[.agg #[.int .i64 (wat ws r).1, .string (wat ws r).2], .bool true] = _
          rw [ha]
        rw [hV]
        by_cases ht : 0 < t ∧ t < 64
        · have HL2 : Hid (crashL kp ls ws t = (keepTo kp ls ws ws.length).set a (torn ((keepTo kp ls ws ws.length).getD a ⟨#[]⟩) d t.toNat)) := by
            unfold Hid crashL
            rw [hlo]
            dsimp only
            rw [if_pos ht, ha]
            rfl
          obtain ⟨tn, rfl⟩ : ∃ tn : Nat, t = tn := ⟨t.toNat, by omega⟩
          obtain ⟨t1, t2⟩ := ht
          clear ha ha' hV
          have hX : Below z.heap.size z (z.alloc (.cells #[.int .i64 a, .string d] 59)) := (Below.refl _ _).alloc (Nat.le_refl _) _
          have HBX := Lib.hid (Box2.made z (.int .i64 a) (.string d) 59)
          have HDX := Lib.hid (HDz.out.below hX)
          have HOX := Lib.hid (HOz.out.below hX)
          go_upto_region 12 with (fail)
          have hal' : a < (keepTo kp ls ws ws.length).length := by rw [keepTo_len]; exact hal
          have hgz : g ≠ z.heap.size := by
            obtain ⟨g', e, _, hgz, _⟩ := HOz.out.at hal'
            cases e
            omega
          clear b0 b1 b2 b3 b4 d0 d1 d2 d3 d4 hbe hX HDz HOz
          generalize (z.alloc (.cells #[.int .i64 a, .string d] 59)) = X at HBX HDX HOX ⊢
          generalize z.heap.size = zb at HBX hgz ⊢
          obtain ⟨q0, q1, q2, _, _⟩ := HBX.out
          obtain ⟨g', e, _, hgX, cg, fg⟩ := HOX.out.at (i := a) (by rw [keepTo_len]; exact hal)
          cases e
          have hsz : ((keepTo kp ls ws ws.length)[a]'(by rw [keepTo_len]; exact hal)).size = 64 := keepTo_size HP.out _ (Nat.le_refl _) _
          have HGD : Hid ((keepTo kp ls ws ws.length).getD a ⟨#[]⟩ = (keepTo kp ls ws ws.length)[a]'(by rw [keepTo_len]; exact hal)) := by
            unfold Hid
            rw [List.getD, List.getElem?_eq_getElem (by rw [keepTo_len]; exact hal)]
            rfl
          generalize (keepTo kp ls ws ws.length)[a]'(by rw [keepTo_len]; exact hal) = old at cg hsz HGD
          have HT := Lib.hid (fun W => tear_any old d tn W hsz y3 (by omega) (by omega))
          go_cut [] from 54 to 66 (fun wx => TornB w B (.slice aS ls.length cap) (.slice aW ws.length capW) (.slice (some ⟨g, 0, none⟩) ls.length capv) ((keepTo kp ls ws ws.length).set a (torn old d tn)) wx)
          case first =>
            go_region_with (go_at_call 85; (with_reducible refine (HT.out _).mono ?_); rintro e x2 ⟨rfl, hx2⟩; have HTE := Lib.hid (tear_step (r := torn old d tn) hB hgB hgz HBX.out HDX.out HOX.out hal' hx2); obtain ⟨p1, p2, hg2, hc2, hf2, s1, s2⟩ := HTE.out.1)
            all_goals (try go_wp2_with fail)
            all_goals go_meet
            all_goals exact HTE.out.2
          case rest =>
            clear q0 q1 q2 cg fg hgX HT HBX HDX HOX
            have HE := Lib.hid (crash_end0 hB hcut.1 hcut.2)
            obtain ⟨⟨⟨b0, b1, b2, b3, b4⟩, ⟨d0, d1, d2, d3, d4⟩, hbe⟩, _⟩ := hcut
            clear hbe
            go_wp2_with fail
            obtain ⟨z0, z1, z2, z3, z4⟩ := HE.out
            unfold d2St at z0 z1 z2
            exact bodyPost_ret (v := .tuple #[.agg #[.slice (some ⟨g, 0, none⟩) ls.length capv, .slice none 0 0], .int .i64 0]) (by simp [results, Tryz.results57, go_sem, z1, z2]) rfl ⟨_, _, rfl, ⟨by rw [HL2.out, HGD.out]; exact z3, from_some (by omega)⟩, ⟨.inl ⟨rfl, rfl⟩, from_nil _⟩, z4⟩
        · have HL2 : Hid (crashL kp ls ws t = keepTo kp ls ws ws.length) := by
            unfold Hid crashL
            rw [hlo]
            dsimp only
            rw [if_neg ht]
          clear ha ha' hV
          have HE := Lib.hid (crash_end hB HDz.out HOz.out (.cells #[.int .i64 a, .string d] 59))
          by_cases ht1 : 0 < t
          · have ht2 : ¬ t < 64 := fun h => ht ⟨ht1, h⟩
            clear ht
            go_wp2_with fail
            obtain ⟨z0, z1, z2, z3, z4⟩ := HE.out
            unfold d2St at z0 z1 z2
            exact bodyPost_ret (v := .tuple #[.agg #[.slice (some ⟨g, 0, none⟩) ls.length capv, .slice none 0 0], .int .i64 0]) (by simp [results, Tryz.results57, go_sem, z1, z2]) rfl ⟨_, _, rfl, ⟨by rw [HL2.out]; exact z3, from_some (by omega)⟩, ⟨.inl ⟨rfl, rfl⟩, from_nil _⟩, z4⟩
          · clear ht
            go_wp2_with fail
            obtain ⟨z0, z1, z2, z3, z4⟩ := HE.out
            unfold d2St at z0 z1 z2
            exact bodyPost_ret (v := .tuple #[.agg #[.slice (some ⟨g, 0, none⟩) ls.length capv, .slice none 0 0], .int .i64 0]) (by simp [results, Tryz.results57, go_sem, z1, z2]) rfl ⟨_, _, rfl, ⟨by rw [HL2.out]; exact z3, from_some (by omega)⟩, ⟨.inl ⟨rfl, rfl⟩, from_nil _⟩, z4⟩

theorem SRow.stored {w : World} {b i : Nat} {v u : Value} {ls : List ByteArray} (h : SRow w v ls) (hf : From (b + 1) v) : SRow (w.setCell ⟨b, i, none⟩ u) v ls :=
  h.setBelow fun g n cap e => by have := hf g 0 n cap e; omega
theorem WRow.stored {w : World} {b i : Nat} {v u : Value} {ws : List (Int × ByteArray)} (h : WRow w v ws) (hf : From (b + 1) v) : WRow (w.setCell ⟨b, i, none⟩ u) v ws := by
  rcases h with h | ⟨g, cap, rfl, hc, hg, hcell⟩
  · exact .inl h
  · have hn := hf g 0 _ _ rfl
    exact .inr ⟨g, cap, rfl, hc, by simpa using hg, fun j hj => by
      rw [World.cell?_setCell_other _ _ _ _ (by intro e; injection e; omega), World.cell?_setCell_other _ _ _ _ (by intro e; injection e; omega)]; exact hcell j hj⟩
/-- What a call returned, stored into the caller's result. -/
theorem D2.ends {w W : World} {vS vW uS uW : Value} {l : List ByteArray} {m : List (Int × ByteArray)} (h : D2 w vS vW W) {B : Nat} (hB : w.heap.size + 2 ≤ B) (hS : SRow W uS l ∧ From B uS) (hW : WRow W uW m ∧ From B uW) :
    w.heap.size + 1 < (d2St w W uS uW).heap.size ∧ (d2St w W uS uW).cell? ⟨w.heap.size + 1, 0, none⟩ = some uS ∧ (d2St w W uS uW).cell? ⟨w.heap.size + 1, 1, none⟩ = some uW ∧
    (SRow (d2St w W uS uW) uS l ∧ From w.heap.size uS) ∧ (WRow (d2St w W uS uW) uW m ∧ From w.heap.size uW) ∧ Below w.heap.size w (d2St w W uS uW) := by
  obtain ⟨⟨c0, c1, c2, _⟩, hbe⟩ := h.stored uS uW
  have fS : From (w.heap.size + 1 + 1) uS := hS.2.mono hB
  have fW : From (w.heap.size + 1 + 1) uW := hW.2.mono hB
  exact ⟨c0, c1, c2, ⟨(hS.1.stored fS).stored fS, hS.2.mono (by omega)⟩, ⟨(hW.1.stored fW).stored fW, hW.2.mono (by omega)⟩, hbe⟩

set_option maxHeartbeats 1000000 in
set_option maxRecDepth 100000 in
/-- Flush is a crash that keeps all. -/
theorem Flush_of {vS vW : Value} {ls l : List ByteArray} {ws m : List (Int × ByteArray)} {w : World} {k : Int} (hS : SRow w vS ls) (hW : WRow w vW ws)
    (hC : ∀ W, Below w.heap.size w W → Calls Tryz.prog 57 #[.agg #[vS, vW], .int .u64 18446744073709551615, .int .i64 0] W (DiskE l m k W)) : Calls Tryz.prog 77 #[.agg #[vS, vW]] w (DiskE l m k w) := by
  have HC := Lib.hid hC
  obtain ⟨aS, cap, rfl⟩ := hS.slice
  obtain ⟨aW, capW, rfl⟩ := hW.slice
  have HD := Lib.hid (D2.made w (.slice aS ls.length cap) (.slice aW ws.length capW))
  clear hS hW hC
  go_enter Tryz.func77, Tryz.ntmps77
  go_wp2_with fail
  refine (HC.out _ HD.out.2.2).mono ?_
  rintro e x ⟨uS, uW, rfl, hS, hW, hx⟩
  have HX := Lib.hid (HD.out.below hx)
  have HE := Lib.hid (HX.out.ends (B := (d2W w (.slice aS ls.length cap) (.slice aW ws.length capW)).heap.size) (by simp [d2W]) hS hW)
  obtain ⟨aS', cap', rfl⟩ := hS.1.slice
  obtain ⟨aW', capW', rfl⟩ := hW.1.slice
  obtain ⟨⟨b0, b1, b2, b3, b4⟩, ⟨d0, d1, d2, d3, d4⟩, hbe⟩ := HX.out
  clear hS hW hx
  go_wp2_with fail
  obtain ⟨z0, z1, z2, z3⟩ := HE.out
  unfold d2St at z0 z1 z2
  exact bodyPost_ret (v := .tuple #[.agg #[.slice aS' l.length cap', .slice aW' m.length capW'], .int .i64 k]) (by simp [results, Tryz.results77, go_sem, z1, z2]) rfl ⟨_, _, rfl, z3⟩

theorem Flush_bad {vS vW : Value} {ls : List ByteArray} {ws : List (Int × ByteArray)} {w : World} (hS : SRow w vS ls) (hW : WRow w vW ws) (hr : smallP ls ws) (hb : rightB ls ws = false) : Calls Tryz.prog 77 #[.agg #[vS, vW]] w (DiskE [] [] 1 w) :=
  Flush_of hS hW fun _ h => Crash_bad (hS.below h) (hW.below h) hr hb 18446744073709551615 0
theorem Flush_yes {vS vW : Value} {ls : List ByteArray} {ws : List (Int × ByteArray)} {w : World} (hS : SRow w vS ls) (hW : WRow w vW ws) (hb : rightB ls ws = true) : Calls Tryz.prog 77 #[.agg #[vS, vW]] w (DiskE (crashL 18446744073709551615 ls ws 0) [] 0 w) :=
  Flush_of hS hW fun _ h => Crash_yes (hS.below h) (hW.below h) hb 18446744073709551615 (by omega) 0
end Go.Proofs.YtlpkalfbcphkmaaGreat.Disk
