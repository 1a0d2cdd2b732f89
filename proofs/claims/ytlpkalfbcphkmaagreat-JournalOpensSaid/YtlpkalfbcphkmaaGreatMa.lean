/-
  Joined: Disk, DiskRow, DiskIter, DiskGet.
-/
import Derived.Test.YtlpkalfbcphkmaaGreatChecked
import Derived.WalkKit
import Derived.ProofKit
import Derived.OpenShut
import Derived.IntWalk
import Derived.OwnWalk
import Derived.WalkSpells
import Derived.Below
import Derived.Laws.AppendOwn
import Derived.Laws.IdiomStrings
import Derived.Deep.Draws
import Derived.Deep.QuietTactic
import Derived.BigQuiet
import Derived.Deep.Cut
import Derived.Lib.Hide
import Derived.PlainAid
import Derived.Lib.LazyBuf
import Derived.Lib.SlBuf
import Derived.RangeFuncNested
import Derived.RangeFuncBound
import Derived.RangeFuncCalls
import Derived.RangeFuncLeaves
import Derived.RangeFuncBox
import Derived.Shelf.Abstract
import Derived.Shelf.RegionOpen
import Derived.OwnWalkIn
import Derived.TacticsInMore
import Derived.LoopNIn
import Derived.LoopIn

/-
  Disks as they lie in memory: a row of texts, a row of writes; contracts of mayHave, has and Right of package disk, and of the reference's Right.
-/
namespace Go.Proofs.YtlpkalfbcphkmaaGreat.Disk
open Go.ChangeShapes Go.WideShapes Go.ChangeAt Go.RowKit Go.Lib

theorem below_trans {a b c : World} (h : Below a.heap.size a b) (h' : Below b.heap.size b c) : Below a.heap.size a c := h.trans (h'.mono h.size)
theorem addr_at (g j : Nat) : (⟨g, 0, none⟩ : Addr).add j = ⟨g, j, none⟩ := by
  simp [Addr.add]
  intro h; exact h.symm

/-- The slice v is the row of texts ls. -/
def SRow (w : World) (v : Value) (ls : List ByteArray) : Prop :=
  (v = .slice none 0 0 ∧ ls = []) ∨ ∃ g cap, v = .slice (some ⟨g, 0, none⟩) ls.length cap ∧ ls.length ≤ cap ∧ g < w.heap.size ∧ ∀ j (h : j < ls.length), w.cell? ⟨g, j, none⟩ = some (.string ls[j])
/-- The slice v is the row of writes ws. -/
def WRow (w : World) (v : Value) (ws : List (Int × ByteArray)) : Prop :=
  (v = .slice none 0 0 ∧ ws = []) ∨ ∃ g cap, v = .slice (some ⟨g, 0, none⟩) ws.length cap ∧ ws.length ≤ cap ∧ g < w.heap.size ∧ ∀ j (h : j < ws.length), w.cell? ⟨g, j * 2, none⟩ = some (.int .i64 ws[j].1) ∧ w.cell? ⟨g, j * 2 + 1, none⟩ = some (.string ws[j].2)
theorem SRow.below {w w' : World} {v : Value} {ls : List ByteArray} (h : SRow w v ls) (hb : Below w.heap.size w w') : SRow w' v ls := by
  rcases h with h | ⟨g, cap, hv, hc, hg, hcell⟩
  · exact .inl h
  · exact .inr ⟨g, cap, hv, hc, Nat.lt_of_lt_of_le hg hb.size, fun j hj => (hb.cell (p := ⟨g, j, none⟩) hg).trans (hcell j hj)⟩
theorem WRow.below {w w' : World} {v : Value} {ws : List (Int × ByteArray)} (h : WRow w v ws) (hb : Below w.heap.size w w') : WRow w' v ws := by
  rcases h with h | ⟨g, cap, hv, hc, hg, hcell⟩
  · exact .inl h
  · exact .inr ⟨g, cap, hv, hc, Nat.lt_of_lt_of_le hg hb.size, fun j hj => ⟨(hb.cell (p := ⟨g, j * 2, none⟩) hg).trans (hcell j hj).1, (hb.cell (p := ⟨g, j * 2 + 1, none⟩) hg).trans (hcell j hj).2⟩⟩
theorem SRow.slice {w : World} {v : Value} {ls : List ByteArray} (h : SRow w v ls) : ∃ a cap, v = .slice a ls.length cap := by
  rcases h with ⟨rfl, rfl⟩ | ⟨g, cap, rfl, _⟩
  · exact ⟨_, _, rfl⟩
  · exact ⟨_, _, rfl⟩
theorem WRow.slice {w : World} {v : Value} {ws : List (Int × ByteArray)} (h : WRow w v ws) : ∃ a cap, v = .slice a ws.length cap := by
  rcases h with ⟨rfl, rfl⟩ | ⟨g, cap, rfl, _⟩
  · exact ⟨_, _, rfl⟩
  · exact ⟨_, _, rfl⟩

theorem ret_int {k : IntKind} {a b : Int} (h : a = b) : Ending.returned (.int k a) = .returned (.int k b) := by rw [h]
theorem v_int {k : IntKind} {a b : Int} (h : a = b) : Value.int k a = .int k b := by rw [h]
theorem ret_bool {a b : Bool} (h : a = b) : Ending.returned (.bool a) = .returned (.bool b) := by rw [h]

/-- A Boolean is returned; nothing that lay has turned. -/
def BoolB (b : Bool) (w : World) (e : Ending) (w' : World) : Prop := e = .returned (.bool b) ∧ Below w.heap.size w w'

/-- How many sectors a disk may have. -/
def mayB (n : Int) : Bool := decide (1 ≤ n) && decide (n ≤ 512)
theorem mayB_t {n : Int} : mayB n = true ↔ (1 ≤ n ∧ n ≤ 512) := by unfold mayB; simp
theorem mayB_f {n : Int} : mayB n = false ↔ ¬ (1 ≤ n ∧ n ≤ 512) := by rw [← mayB_t]; simp
theorem mayHave_any (n : Int) (w : World) : Calls Tryz.prog 62 #[.int .i64 n] w fun e w' => e = .returned (.bool (mayB n)) ∧ w = w' := by
  go_enter Tryz.func62, Tryz.ntmps62
  go_wp2
  all_goals go_ret
  · rename_i h
    exact ⟨ret_bool (by simp [mayB, h]), rfl⟩
  · rename_i h
    exact ⟨ret_bool (by simp [mayB]; omega), rfl⟩

/-- Is there a sector of that place? -/
def hasB (n : Nat) (at_ : Int) : Bool := decide (0 ≤ at_) && decide (at_ < n)
theorem hasB_t {n : Nat} {i : Int} : hasB n i = true ↔ (0 ≤ i ∧ i < n) := by unfold hasB; simp
theorem has_any (a : Option Addr) (n cap : Nat) (vW : Value) (at_ : Int) (w : World) : Calls Tryz.prog 63 #[.agg #[.slice a n cap, vW], .int .i64 at_] w (BoolB (hasB n at_) w) := by
  go_enter Tryz.func63, Tryz.ntmps63
  go_wp2
  all_goals go_ret
  · rename_i h
    exact ⟨ret_bool (by simp [hasB, h]), (Below.refl _ _).alloc (Nat.le_refl _) _⟩
  · rename_i h
    exact ⟨ret_bool (by simp [hasB]; omega), (Below.refl _ _).alloc (Nat.le_refl _) _⟩

/-- A block of two cells. -/
def Box2 (b : Nat) (c0 c1 : Value) (w : World) : Prop := b < w.heap.size ∧ w.cell? ⟨b, 0, none⟩ = some c0 ∧ w.cell? ⟨b, 1, none⟩ = some c1 ∧ w.frozen? ⟨b, 0, none⟩ = false ∧ w.frozen? ⟨b, 1, none⟩ = false
theorem Box2.below {b : Nat} {c0 c1 : Value} {w w' : World} (h : Box2 b c0 c1 w) (hb : Below w.heap.size w w') : Box2 b c0 c1 w' := by
  obtain ⟨h0, h1, h2, h3, h4⟩ := h
  exact ⟨Nat.lt_of_lt_of_le h0 hb.size, (hb.cell (p := ⟨b, 0, none⟩) h0).trans h1, (hb.cell (p := ⟨b, 1, none⟩) h0).trans h2, (hb.frozen (p := ⟨b, 0, none⟩) h0).trans h3, (hb.frozen (p := ⟨b, 1, none⟩) h0).trans h4⟩
theorem Box2.made (w : World) (c0 c1 : Value) (T : TypeId) : Box2 w.heap.size c0 c1 (w.alloc (.cells #[c0, c1] T)) := by
  refine ⟨by simp, ?_, ?_, ?_, ?_⟩ <;> simp
theorem Box2.set {b : Nat} {c0 c1 : Value} {w : World} (h : Box2 b c0 c1 w) (u0 u1 : Value) : Box2 b u0 u1 ((w.setCell ⟨b, 0, none⟩ u0).setCell ⟨b, 1, none⟩ u1) := by
  obtain ⟨h0, h1, h2, h3, h4⟩ := h
  have n01 : (⟨b, 0, none⟩ : Addr) ≠ ⟨b, 1, none⟩ := by simp
  have g1 : (w.setCell ⟨b, 0, none⟩ u0).cell? ⟨b, 1, none⟩ = some c1 := by rw [World.cell?_setCell_other _ _ _ _ n01]; exact h2
  refine ⟨by simpa using h0, ?_, World.cell?_setCell_same _ _ _ g1, ?_, ?_⟩
  · rw [World.cell?_setCell_other _ _ _ _ n01.symm]; exact World.cell?_setCell_same _ _ _ h1
  · rw [World.frozen?_setCell, World.frozen?_setCell]; exact h3
  · rw [World.frozen?_setCell, World.frozen?_setCell]; exact h4

/-- A disk may be. -/
def rightP (ls : List ByteArray) (ws : List (Int × ByteArray)) : Prop :=
  1 ≤ ls.length ∧ ls.length ≤ 512 ∧ ws.length ≤ 64 ∧ (∀ j (h : j < ls.length), ls[j].size = 64) ∧ ∀ j (h : j < ws.length), 0 ≤ ws[j].1 ∧ ws[j].1 < ls.length ∧ ws[j].2.size = 64
/-- A disk's texts are not too long. -/
def smallP (ls : List ByteArray) (ws : List (Int × ByteArray)) : Prop :=
  ls.length ≤ 1000 ∧ ws.length ≤ 1000 ∧ (∀ j (h : j < ls.length), ls[j].size ≤ 1000000) ∧ ∀ j (h : j < ws.length), ws[j].2.size ≤ 1000000

open Classical in
noncomputable def rightB (ls : List ByteArray) (ws : List (Int × ByteArray)) : Bool := decide (rightP ls ws)
theorem rightB_t {ls : List ByteArray} {ws : List (Int × ByteArray)} : rightB ls ws = true ↔ rightP ls ws := by unfold rightB; simp
theorem rightB_f {ls : List ByteArray} {ws : List (Int × ByteArray)} : rightB ls ws = false ↔ ¬ rightP ls ws := by unfold rightB; simp
/-- The first k sectors, and the first q writes, are as they should be. -/
def Secs (ls : List ByteArray) (k : Nat) : Prop := ∀ j (h : j < ls.length), j < k → ls[j].size = 64
def Wrts (n : Nat) (ws : List (Int × ByteArray)) (k : Nat) : Prop := ∀ j (h : j < ws.length), j < k → 0 ≤ ws[j].1 ∧ ws[j].1 < n ∧ ws[j].2.size = 64
theorem secs_succ {ls : List ByteArray} {k : Nat} (h : Secs ls k) (hk : k < ls.length) (e : ls[k].size = 64) : Secs ls (k + 1) := fun j hj hjk => by
  by_cases c : j = k
  · subst c; exact e
  · exact h j hj (by omega)
theorem wrts_succ {n : Nat} {ws : List (Int × ByteArray)} {k : Nat} (h : Wrts n ws k) (hk : k < ws.length) (e : 0 ≤ ws[k].1 ∧ ws[k].1 < n ∧ ws[k].2.size = 64) : Wrts n ws (k + 1) := fun j hj hjk => by
  by_cases c : j = k
  · subst c; exact e
  · exact h j hj (by omega)
theorem right_sec {ls : List ByteArray} {ws : List (Int × ByteArray)} {k : Nat} (hk : k < ls.length) (e : ¬ ls[k].size = 64) : false = rightB ls ws := (rightB_f.2 fun h => e (h.2.2.2.1 k hk)).symm
theorem right_wrt {ls : List ByteArray} {ws : List (Int × ByteArray)} {k : Nat} (hk : k < ws.length) (e : ¬ (0 ≤ ws[k].1 ∧ ws[k].1 < ls.length ∧ ws[k].2.size = 64)) : false = rightB ls ws := (rightB_f.2 fun h => e (h.2.2.2.2 k hk)).symm

/-- What holds at the head of a loop over the writes of a disk that lies in a block of its own. -/
def Rounds (w : World) (m : Nat) (vS vW : Value) (X : Nat → Prop) (i : Value) (wr : World) : Prop :=
  ∃ k : Nat, k ≤ m ∧ i = .int .i64 k ∧ X k ∧ Box2 w.heap.size vS vW wr ∧ Below w.heap.size w wr

/-- A block of two cells made in a round, behind a call. -/
theorem round_step {w wr w' : World} {vS vW c0 c1 : Value} {T : TypeId} (hbx : Box2 w.heap.size vS vW wr) (hbe : Below w.heap.size w wr) (hb : Below (wr.alloc (.cells #[c0, c1] T)).heap.size (wr.alloc (.cells #[c0, c1] T)) w') :
    Box2 wr.heap.size c0 c1 w' ∧ Box2 w.heap.size vS vW w' ∧ Below w.heap.size w w' := by
  have h1 : Below wr.heap.size wr (wr.alloc (.cells #[c0, c1] T)) := (Below.refl _ _).alloc (Nat.le_refl _) _
  exact ⟨(Box2.made wr c0 c1 T).below hb, hbx.below (below_trans h1 hb), below_trans hbe (below_trans h1 hb)⟩

theorem WRow.at {w : World} {a : Option Addr} {cap : Nat} {ws : List (Int × ByteArray)} (h : WRow w (.slice a ws.length cap) ws) {q : Nat} (hq : q < ws.length) :
    ∃ gw, a = some ⟨gw, 0, none⟩ ∧ ws.length ≤ cap ∧ gw < w.heap.size ∧ w.cell? ⟨gw, q * 2, none⟩ = some (.int .i64 ws[q].1) ∧ w.cell? ⟨gw, q * 2 + 1, none⟩ = some (.string ws[q].2) := by
  rcases h with ⟨_, rfl⟩ | ⟨gw, cw, hv, hcw, hgw, hcell⟩
  · simp at hq
  · cases hv
    exact ⟨gw, rfl, hcw, hgw, hcell q hq⟩
theorem SRow.at {w : World} {a : Option Addr} {cap : Nat} {ls : List ByteArray} (h : SRow w (.slice a ls.length cap) ls) {q : Nat} (hq : q < ls.length) :
    ∃ gw, a = some ⟨gw, 0, none⟩ ∧ ls.length ≤ cap ∧ gw < w.heap.size ∧ w.cell? ⟨gw, q, none⟩ = some (.string ls[q]) := by
  rcases h with ⟨_, rfl⟩ | ⟨gw, cw, hv, hcw, hgw, hcell⟩
  · simp at hq
  · cases hv
    exact ⟨gw, rfl, hcw, hgw, hcell q hq⟩

set_option maxHeartbeats 1000000 in
set_option maxRecDepth 100000 in
theorem Right_any {vS vW : Value} {ls : List ByteArray} {ws : List (Int × ByteArray)} {w : World} (hS : SRow w vS ls) (hW : WRow w vW ws) (hr : smallP ls ws) : Calls Tryz.prog 30 #[.agg #[vS, vW]] w (BoolB (rightB ls ws) w) := by
  obtain ⟨h1, h2, h4, h5⟩ := hr
  obtain ⟨aS, cap, rfl⟩ := hS.slice
  obtain ⟨aW, capW, rfl⟩ := hW.slice
  have HC := Lib.hid hS
  have HW := Lib.hid hW
  have H4 := Lib.hid h4
  have H5 := Lib.hid h5
  clear hS hW h4 h5
  by_cases hm : mayB ls.length = true
  case neg =>
    have hm' : mayB ls.length = false := by simpa using hm
    have HN := Lib.hid (rightB_f.2 fun h => hm (mayB_t.2 ⟨by have := h.1; omega, by have := h.2.1; omega⟩) : rightB ls ws = false)
    go_enter Tryz.func30, Tryz.ntmps30
    go_wp2_with (go_at_call 62; refine (mayHave_any _ _).mono ?_; rintro e w' ⟨rfl, rfl⟩; rw [hm'])
    go_ret
    exact ⟨ret_bool HN.out.symm, (Below.refl _ _).alloc (Nat.le_refl _) _⟩
  by_cases hw64 : ws.length ≤ 64
  case neg =>
    have HN := Lib.hid (rightB_f.2 fun h => hw64 h.2.2.1 : rightB ls ws = false)
    go_enter Tryz.func30, Tryz.ntmps30
    go_wp2_with (go_at_call 62; refine (mayHave_any _ _).mono ?_; rintro e w' ⟨rfl, rfl⟩; rw [hm])
    go_ret
    exact ⟨ret_bool HN.out.symm, (Below.refl _ _).alloc (Nat.le_refl _) _⟩
  have hm1 := mayB_t.1 hm
  go_enter Tryz.func30, Tryz.ntmps30
  go_wp2_with (go_at_call 62; refine (mayHave_any _ _).mono ?_; rintro e w' ⟨rfl, rfl⟩; rw [hm])
  have hbx := Box2.made w (.slice aS ls.length cap) (.slice aW ws.length capW) 25
  have hbe : Below w.heap.size w (w.alloc (.cells #[.slice aS ls.length cap, .slice aW ws.length capW] 25)) := (Below.refl _ _).alloc (Nat.le_refl _) _
  generalize (w.alloc (.cells #[.slice aS ls.length cap, .slice aW ws.length capW] 25)) = x at hbx hbe ⊢
  have HCX := Lib.hid (HC.out.below hbe)
  have HBX := Lib.hid hbx
  have HBE := Lib.hid hbe
  clear hbx hbe
  go_loop [21] (fun i => ∃ k : Nat, k ≤ ls.length ∧ i = .int .i64 k ∧ Secs ls k) (fun i => ls.length - (Go.RowKit.intOf i).toNat)
  case atStart => exact ⟨0, Nat.zero_le _, rfl, fun j _ h => by omega⟩
  case round =>
    obtain ⟨k, hk, rfl, hsec⟩ := hrel
    have HSE := Lib.hid hsec
    clear hsec
    by_cases hlt : k < ls.length
    · obtain ⟨g, rfl, hc, hg, hce⟩ := HCX.out.at hlt
      have hsz := H4.out k hlt
      have HX := Lib.hid (secs_succ HSE.out hlt)
      have HY := Lib.hid (right_sec (ws := ws) hlt)
      generalize ls[k] = y at hce hsz HX HY
      by_cases h64 : y.size = 64
      · go_wp2
        go_round
        case rel => exact ⟨k + 1, by omega, by go_num, HX.out h64⟩
        case measure => simp [Go.RowKit.intOf]; omega
      · go_wp2
        go_ret
        exact ⟨ret_bool (HY.out h64), HBE.out⟩
    · obtain ⟨b0, b1, b2, b3, b4⟩ := HBX.out
      have HSA : Hid (∀ j (h : j < ls.length), ls[j].size = 64) := fun j h => HSE.out j h (by omega)
      clear HCX HSE
      go_wp2
      go_loopw [32] (fun i wr => Rounds w ws.length (.slice aS ls.length cap) (.slice aW ws.length capW) (Wrts ls.length ws) i wr) (fun i _ => ws.length - (Go.RowKit.intOf i).toNat)
      case atStart => exact ⟨0, Nat.zero_le _, rfl, fun j _ h => by omega, HBX.out, HBE.out⟩
      case round =>
        obtain ⟨q, hq, rfl, hwr, hbx, hbe⟩ := hrel
        have HB := Lib.hid hbe
        have HBX := Lib.hid hbx
        have HWR := Lib.hid hwr
        obtain ⟨b0, b1, b2, b3, b4⟩ := hbx
        clear hwr
        by_cases hlt : q < ws.length
        · obtain ⟨gw, rfl, hcw, hgw, c1, c2⟩ := (HW.out.below hbe).at hlt
          have h5 := H5.out q hlt
          have HX := Lib.hid (wrts_succ HWR.out hlt)
          have HY := Lib.hid (right_wrt (ls := ls) hlt)
          clear hbe
          generalize ws[q] = y at c1 c2 h5 HX HY
          obtain ⟨ya, yd⟩ := y
          dsimp only at c1 c2 h5 HX HY
          by_cases hh : hasB ls.length ya = true
          · have hh' := hasB_t.1 hh
            by_cases h64 : yd.size = 64
            · go_wp2_with (go_at_call 63; refine (has_any _ _ _ _ _ _).mono ?_; rintro e w' ⟨rfl, hb'⟩; rw [hh]; have HRS := Lib.hid (round_step HBX.out HB.out hb'); obtain ⟨m0, m1, m2, m3, m4⟩ := HRS.out.1; clear hb')
              go_roundw
              case rel => exact ⟨q + 1, by omega, by go_num, HX.out ⟨hh'.1, hh'.2, h64⟩, HRS.out.2⟩
              case measure => simp [Go.RowKit.intOf]; omega
            · go_wp2_with (go_at_call 63; refine (has_any _ _ _ _ _ _).mono ?_; rintro e w' ⟨rfl, hb'⟩; rw [hh]; have HRS := Lib.hid (round_step HBX.out HB.out hb'); obtain ⟨m0, m1, m2, m3, m4⟩ := HRS.out.1; clear hb')
              go_ret
              exact ⟨ret_bool (HY.out fun h => h64 h.2.2), HRS.out.2.2⟩
          · go_wp2_with (go_at_call 63; refine (has_any _ _ _ _ _ _).mono ?_; rintro e w' ⟨rfl, hb'⟩; rw [Bool.eq_false_iff.2 hh]; have HRS := Lib.hid (round_step HBX.out HB.out hb'); obtain ⟨m0, m1, m2, m3, m4⟩ := HRS.out.1; clear hb')
            go_ret
            exact ⟨ret_bool (HY.out fun h => hh (hasB_t.2 ⟨h.1, h.2.1⟩)), HRS.out.2.2⟩
        · have HT := Lib.hid (rightB_t.2 ⟨by omega, by omega, hw64, HSA.out, fun j h => HWR.out j h (by omega)⟩ : rightB ls ws = true)
          clear hbe
          go_wp2
          go_ret
          exact ⟨ret_bool HT.out.symm, HB.out⟩

set_option maxHeartbeats 1000000 in
set_option maxRecDepth 100000 in
theorem refRight_any {vS vW : Value} {ls : List ByteArray} {ws : List (Int × ByteArray)} {w : World} (hS : SRow w vS ls) (hW : WRow w vW ws) (hr : smallP ls ws) : Calls Tryz.prog 35 #[.agg #[vS, vW]] w (BoolB (rightB ls ws) w) := by
  obtain ⟨h1, h2, h4, h5⟩ := hr
  obtain ⟨aS, cap, rfl⟩ := hS.slice
  obtain ⟨aW, capW, rfl⟩ := hW.slice
  have HC := Lib.hid hS
  have HW := Lib.hid hW
  have H4 := Lib.hid h4
  have H5 := Lib.hid h5
  clear hS hW h4 h5
  go_enter Tryz.func35, Tryz.ntmps35
  go_wp2
  have hbx := Box2.made w (.slice aS ls.length cap) (.slice aW ws.length capW) 25
  have hbe : Below w.heap.size w (w.alloc (.cells #[.slice aS ls.length cap, .slice aW ws.length capW] 25)) := (Below.refl _ _).alloc (Nat.le_refl _) _
  generalize (w.alloc (.cells #[.slice aS ls.length cap, .slice aW ws.length capW] 25)) = x at hbx hbe ⊢
  have HCX := Lib.hid (HC.out.below hbe)
  have HBX := Lib.hid hbx
  have HBE := Lib.hid hbe
  clear hbx hbe
  go_loop [10] (fun i => ∃ k : Nat, k ≤ ls.length ∧ i = .int .i64 k ∧ Secs ls k) (fun i => ls.length - (Go.RowKit.intOf i).toNat)
  case atStart => exact ⟨0, Nat.zero_le _, rfl, fun j _ h => by omega⟩
  case round =>
    obtain ⟨k, hk, rfl, hsec⟩ := hrel
    have HSE := Lib.hid hsec
    clear hsec
    by_cases hlt : k < ls.length
    · obtain ⟨g, rfl, hc, hg, hce⟩ := HCX.out.at hlt
      have hsz := H4.out k hlt
      have HX := Lib.hid (secs_succ HSE.out hlt)
      have HY := Lib.hid (right_sec (ws := ws) hlt)
      generalize ls[k] = y at hce hsz HX HY
      by_cases h64 : y.size = 64
      · go_wp2
        go_round
        case rel => exact ⟨k + 1, by omega, by go_num, HX.out h64⟩
        case measure => simp [Go.RowKit.intOf]; omega
      · go_wp2
        go_ret
        exact ⟨ret_bool (HY.out h64), HBE.out⟩
    · obtain ⟨b0, b1, b2, b3, b4⟩ := HBX.out
      have HSA : Hid (∀ j (h : j < ls.length), ls[j].size = 64) := fun j h => HSE.out j h (by omega)
      clear HCX HSE
      go_wp2
      go_loopw [21] (fun i wr => Rounds w ws.length (.slice aS ls.length cap) (.slice aW ws.length capW) (Wrts ls.length ws) i wr) (fun i _ => ws.length - (Go.RowKit.intOf i).toNat)
      case atStart => exact ⟨0, Nat.zero_le _, rfl, fun j _ h => by omega, HBX.out, HBE.out⟩
      case round =>
        obtain ⟨q, hq, rfl, hwr, hbx, hbe⟩ := hrel
        have HB := Lib.hid hbe
        have HBX := Lib.hid hbx
        have HWR := Lib.hid hwr
        obtain ⟨b0, b1, b2, b3, b4⟩ := hbx
        clear hwr
        by_cases hlt : q < ws.length
        · obtain ⟨gw, rfl, hcw, hgw, c1, c2⟩ := (HW.out.below hbe).at hlt
          have h5 := H5.out q hlt
          have HX := Lib.hid (wrts_succ HWR.out hlt)
          have HY := Lib.hid (right_wrt (ls := ls) hlt)
          clear hbe
          generalize ws[q] = y at c1 c2 h5 HX HY
          obtain ⟨ya, yd⟩ := y
          dsimp only at c1 c2 h5 HX HY
          have HRS := Lib.hid (round_step (c0 := .int .i64 ya) (c1 := .string yd) (T := 59) HBX.out HB.out (Below.refl _ _)).2
          by_cases hh : 0 ≤ ya
          · by_cases hh' : ya < ls.length
            · by_cases h64 : yd.size = 64
              · go_wp2
                go_roundw
                case rel => exact ⟨q + 1, by omega, by go_num, HX.out ⟨hh, hh', h64⟩, HRS.out⟩
                case measure => simp [Go.RowKit.intOf]; omega
              · have HZ := Lib.hid h64
                have hne : ((yd.size : Int) != 64) = true := by simp; omega
                go_wp2
                go_ret
                exact ⟨ret_bool (HY.out fun h => HZ.out h.2.2), HRS.out.2⟩
            · go_wp2
              go_ret
              exact ⟨ret_bool (HY.out fun h => by omega), HRS.out.2⟩
          · go_wp2
            go_ret
            exact ⟨ret_bool (HY.out fun h => by omega), HRS.out.2⟩
        · clear hbe
          have HT : Hid (1 ≤ ls.length → ls.length ≤ 512 → ws.length ≤ 64 → rightB ls ws = true) := fun a b c => rightB_t.2 ⟨a, b, c, HSA.out, fun j h => HWR.out j h (by omega)⟩
          by_cases c1 : 0 < ls.length
          · by_cases c2 : ls.length ≤ 512
            · by_cases c3 : ws.length ≤ 64
              · go_wp2
                go_ret
                exact ⟨ret_bool (by rw [HT.out c1 c2 c3]; simp; omega), HB.out⟩
              · go_wp2
                go_ret
                exact ⟨ret_bool (by rw [rightB_f.2 fun h => by have := h.2.2.1; omega]; simp; omega), HB.out⟩
            · go_wp2
              go_ret
              exact ⟨ret_bool (rightB_f.2 fun h => by have := h.2.1; omega).symm, HB.out⟩
          · go_wp2
            go_ret
            exact ⟨ret_bool (rightB_f.2 fun h => by have := h.1; omega).symm, HB.out⟩
end Go.Proofs.YtlpkalfbcphkmaaGreat.Disk

/-
  Rows of texts and of writes in blocks of their own; contracts of slices.Clone at both.
-/
namespace Go.Proofs.YtlpkalfbcphkmaaGreat.Disk
open Go.ChangeShapes Go.WideShapes Go.ChangeAt Go.RowKit Go.Lib

theorem Tryz.infoS : (Tryz.prog.info? 9).map (fun i => (i.zero, i.size, i.bytes)) = some (some (.string ⟨#[]⟩), 1, 16) := by kernel_rfl
theorem Tryz.infoW : (Tryz.prog.info? 59).map (fun i => (i.zero, i.size, i.bytes)) = some (some (.agg #[.int .i64 0, .string ⟨#[]⟩]), 2, 24) := by kernel_rfl

def scells (l : List ByteArray) : List Value := l.map Value.string
theorem scells_len (l : List ByteArray) : (scells l).length = l.length := by simp [scells]
theorem scells_snoc (l : List ByteArray) (t : ByteArray) : scells (l ++ [t]) = scells l ++ [Value.string t] := by simp [scells]
theorem scells_at {l : List ByteArray} {j : Nat} (h : j < l.length) : (scells l)[j]? = some (.string l[j]) := by simp [scells, List.getElem?_eq_getElem h]
def wcells : List (Int × ByteArray) → List Value
  | [] => []
  | y :: r => .int .i64 y.1 :: .string y.2 :: wcells r
theorem wcells_len : ∀ l : List (Int × ByteArray), (wcells l).length = l.length * 2
  | [] => rfl
  | y :: r => by simp [wcells, wcells_len r]; omega
theorem wcells_append : ∀ (l m : List (Int × ByteArray)), wcells (l ++ m) = wcells l ++ wcells m
  | [], m => rfl
  | y :: r, m => by simp [wcells, wcells_append r m]
theorem wcells_snoc (l : List (Int × ByteArray)) (y : Int × ByteArray) : wcells (l ++ [y]) = wcells l ++ [.int .i64 y.1, .string y.2] := by rw [wcells_append]; rfl
theorem wcells_at : ∀ (l : List (Int × ByteArray)) (j : Nat) (h : j < l.length), (wcells l)[j * 2]? = some (.int .i64 l[j].1) ∧ (wcells l)[j * 2 + 1]? = some (.string l[j].2)
  | y :: r, 0, _ => ⟨rfl, rfl⟩
  | y :: r, j + 1, h => by
    have := wcells_at r j (by simpa using h)
    rw [show (j + 1) * 2 = j * 2 + 1 + 1 by omega]
    simpa [wcells] using this
theorem wcells_one : ∀ (l : List (Int × ByteArray)) u, u ∈ wcells l → u.oneCell' = true
  | y :: r, u, h => by
    simp only [wcells, List.mem_cons] at h
    rcases h with rfl | rfl | h
    · rfl
    · rfl
    · exact wcells_one r u h
theorem scells_one (l : List ByteArray) (u : Value) (h : u ∈ scells l) : u.oneCell' = true := by
  simp only [scells, List.mem_map] at h
  obtain ⟨b, _, rfl⟩ := h
  rfl

/-- A row of texts, a row of writes, in a block of its own from B on. -/
def OwnS (B : Nat) (v : Value) (ls : List ByteArray) (w : World) : Prop := w.ownsRow B 9 1 v ls.length (scells ls)
def OwnW (B : Nat) (v : Value) (ws : List (Int × ByteArray)) (w : World) : Prop := w.ownsRow B 59 2 v ws.length (wcells ws)
theorem OwnS.row {w : World} {B : Nat} {v : Value} {ls : List ByteArray} (h : OwnS B v ls w) : SRow w v ls := by
  have hw := h
  obtain ⟨_, ⟨rfl, h2⟩ | ⟨g, cap, cur, rfl, hg, hh, hn, _⟩⟩ := h
  · exact .inl ⟨rfl, List.length_eq_zero_iff.1 h2⟩
  · refine .inr ⟨g, cap, rfl, hn, ?_, ?_⟩
    · apply Classical.byContradiction
      intro hc
      rw [Array.getElem?_eq_none (by omega)] at hh
      cases hh
    · intro j hj
      have := World.ownsRow.cells hw (g := g) rfl j (.string ls[j]) (scells_at hj)
      rwa [addr_at] at this
theorem OwnW.row {w : World} {B : Nat} {v : Value} {ws : List (Int × ByteArray)} (h : OwnW B v ws w) : WRow w v ws := by
  have hw := h
  obtain ⟨_, ⟨rfl, h2⟩ | ⟨g, cap, cur, rfl, hg, hh, hn, _⟩⟩ := h
  · exact .inl ⟨rfl, List.length_eq_zero_iff.1 h2⟩
  · refine .inr ⟨g, cap, rfl, hn, ?_, ?_⟩
    · apply Classical.byContradiction
      intro hc
      rw [Array.getElem?_eq_none (by omega)] at hh
      cases hh
    · intro j hj
      have h1 := World.ownsRow.cells hw (g := g) rfl (j * 2) _ (wcells_at ws j hj).1
      have h2 := World.ownsRow.cells hw (g := g) rfl (j * 2 + 1) _ (wcells_at ws j hj).2
      rw [addr_at] at h1 h2
      exact ⟨h1, h2⟩
theorem SRow.news {w : World} {g cap : Nat} {ls : List ByteArray} (h : SRow w (.slice (some ⟨g, 0, none⟩) ls.length cap) ls) : ∀ j u, (scells ls)[j]? = some u → w.cell? ((⟨g, 0, none⟩ : Addr).add j) = some u := by
  intro j u hu
  have hj : j < ls.length := by
    have := (List.getElem?_eq_some_iff.1 hu).1
    rwa [scells_len] at this
  obtain ⟨g', e, _, _, hc⟩ := h.at hj
  cases e
  rw [scells_at hj] at hu
  cases hu
  rw [addr_at]; exact hc
theorem WRow.news {w : World} {g cap : Nat} {ws : List (Int × ByteArray)} (h : WRow w (.slice (some ⟨g, 0, none⟩) ws.length cap) ws) : ∀ j u, (wcells ws)[j]? = some u → w.cell? ((⟨g, 0, none⟩ : Addr).add j) = some u := by
  intro j u hu
  have hj : j < ws.length * 2 := by
    have := (List.getElem?_eq_some_iff.1 hu).1
    rwa [wcells_len] at this
  have hq : j / 2 < ws.length := by omega
  obtain ⟨g', e, _, _, c1, c2⟩ := h.at hq
  cases e
  have hA := wcells_at ws (j / 2) hq
  rw [addr_at]
  rcases Nat.mod_two_eq_zero_or_one j with hm | hm
  · obtain ⟨q, rfl⟩ : ∃ q, j = q * 2 := ⟨j / 2, by omega⟩
    have eq : q * 2 / 2 = q := by omega
    simp only [eq] at c1 hA
    rw [hA.1] at hu
    cases hu
    exact c1
  · obtain ⟨q, rfl⟩ : ∃ q, j = q * 2 + 1 := ⟨j / 2, by omega⟩
    have eq : (q * 2 + 1) / 2 = q := by omega
    simp only [eq] at c2 hA
    rw [hA.2] at hu
    cases hu
    exact c2

/-- A new row is returned. -/
def NewS (ls : List ByteArray) (w : World) (e : Ending) (w' : World) : Prop := ∃ v, e = .returned v ∧ OwnS w.heap.size v ls w' ∧ Below w.heap.size w w'
def NewW (ws : List (Int × ByteArray)) (w : World) (e : Ending) (w' : World) : Prop := ∃ v, e = .returned v ∧ OwnW w.heap.size v ws w' ∧ Below w.heap.size w w'

set_option maxHeartbeats 1000000 in
set_option maxRecDepth 100000 in
theorem CloneS_any {v : Value} {ls : List ByteArray} {w : World} (h : SRow w v ls) (hl : ls.length ≤ 1000) : Calls Tryz.prog 34 #[v] w (NewS ls w) := by
  obtain ⟨i0, hi, hz0, hz1, hz2⟩ := info_parts Tryz.infoS
  have H := Lib.hid h
  rcases h with ⟨rfl, rfl⟩ | ⟨g, cap, rfl, hc, hg, hcell⟩
  · have hnil : (binOp .eql 22 (.slice none 0 0) (.slice none 0 0)).run Tryz.prog w = .ok (.bool true) w := run_eql_slice_nil w 22 9 _ _ _ Tryz.underlying22
    go_enter Tryz.func34, Tryz.ntmps34
    go_wp2
    go_ret
    exact ⟨_, rfl, World.ownsRow_nil _ _ _ _, Below.refl _ _⟩
  · have hb : Below w.heap.size w (w.alloc (.cells #[] 9)) := (Below.refl _ _).alloc (Nat.le_refl _) _
    have HB := Lib.hid hb
    have HN := Lib.hid (H.out.below hb).news
    have hnil : (binOp .eql 22 (.slice (some ⟨g, 0, none⟩) ls.length cap) (.slice none 0 0)).run Tryz.prog w = .ok (.bool false) w := run_eql_slice_nil w 22 9 _ _ _ Tryz.underlying22
    clear hcell hb
    go_enter Tryz.func34, Tryz.ntmps34
    go_wp2_with (at_builtin; refine wpList_append_own _ rfl _ _ 22 rfl w.heap.size 9 i0 (.string ⟨#[]⟩) 1 16 Tryz.underlying22 hi hz0 hz1 hz2 rfl (by decide) _ 0 [] rfl (World.ownsRow_made w #[] 0 (Nat.le_refl _) (Nat.zero_le _) rfl) ⟨g, 0, none⟩ ls.length cap (scells ls) rfl ?c0 HN.out (scells_one ls) ?c3 ?c4 ?c5 ?_)
    case c0 => rw [scells_len]; omega
    case c3 => unfold maxLen; omega
    case c4 => omega
    case c5 => simp
    intro v' w1 hown' hgrow _
    have R : OwnS w.heap.size v' ls w1 := hown'
    have B : Below w.heap.size w w1 := HB.out.grown hgrow (by simp) (fun j hj => by cases hj; exact Nat.le_refl _)
    have HR := Lib.hid (And.intro R B)
    clear R B hown' hgrow
    go_wp2
    go_ret
    exact ⟨_, rfl, HR.out.1, HR.out.2⟩

set_option maxHeartbeats 1000000 in
set_option maxRecDepth 100000 in
theorem CloneW_any {v : Value} {ls : List (Int × ByteArray)} {w : World} (h : WRow w v ls) (hl : ls.length ≤ 1000) : Calls Tryz.prog 101 #[v] w (NewW ls w) := by
  obtain ⟨i0, hi, hz0, hz1, hz2⟩ := info_parts Tryz.infoW
  have H := Lib.hid h
  rcases h with ⟨rfl, rfl⟩ | ⟨g, cap, rfl, hc, hg, hcell⟩
  · have hnil : (binOp .eql 23 (.slice none 0 0) (.slice none 0 0)).run Tryz.prog w = .ok (.bool true) w := run_eql_slice_nil w 23 59 _ _ _ Tryz.underlying23
    go_enter Tryz.func101, Tryz.ntmps101
    go_wp2
    go_ret
    exact ⟨_, rfl, World.ownsRow_nil _ _ _ _, Below.refl _ _⟩
  · have hb : Below w.heap.size w (w.alloc (.cells #[] 59)) := (Below.refl _ _).alloc (Nat.le_refl _) _
    have HB := Lib.hid hb
    have HN := Lib.hid (H.out.below hb).news
    have hnil : (binOp .eql 23 (.slice (some ⟨g, 0, none⟩) ls.length cap) (.slice none 0 0)).run Tryz.prog w = .ok (.bool false) w := run_eql_slice_nil w 23 59 _ _ _ Tryz.underlying23
    clear hcell hb
    go_enter Tryz.func101, Tryz.ntmps101
    go_wp2_with (at_builtin; refine wpList_append_own _ rfl _ _ 23 rfl w.heap.size 59 i0 (.agg #[.int .i64 0, .string ⟨#[]⟩]) 2 24 Tryz.underlying23 hi hz0 hz1 hz2 rfl (by decide) _ 0 [] rfl (World.ownsRow_made w #[] 0 (Nat.le_refl _) (Nat.zero_le _) rfl) ⟨g, 0, none⟩ ls.length cap (wcells ls) rfl ?c0 HN.out (wcells_one ls) ?c3 ?c4 ?c5 ?_)
    case c0 => rw [wcells_len]
    case c3 => unfold maxLen; omega
    case c4 => omega
    case c5 => simp
    intro v' w1 hown' hgrow _
    have R : OwnW w.heap.size v' ls w1 := hown'
    have B : Below w.heap.size w w1 := HB.out.grown hgrow (by simp) (fun j hj => by cases hj; exact Nat.le_refl _)
    have HR := Lib.hid (And.intro R B)
    clear R B hown' hgrow
    go_wp2
    go_ret
    exact ⟨_, rfl, HR.out.1, HR.out.2⟩

end Go.Proofs.YtlpkalfbcphkmaaGreat.Disk

/-
  Contract of slices.Backward over a row of writes: they come from behind, each with its place.
-/
namespace Go.Proofs.YtlpkalfbcphkmaaGreat.Disk
open Go.ChangeShapes Go.WideShapes Go.ChangeAt Go.RowKit Go.Lib Go.Shelf
attribute [local go_sem] Oper.semAt_some

/-- A write, with its place. -/
abbrev PW := Nat × Int × ByteArray
/-- What yield is handed. -/
def encPW (x : PW) : Array Value := #[.int .i64 (x.1 : Int), .agg #[.int .i64 x.2.1, .string x.2.2]]
/-- The writes from the last one down to number r. -/
def down (ws : List (Int × ByteArray)) (r : Nat) : List PW := (List.range (ws.length - r)).map fun j => (ws.length - 1 - j, ws[ws.length - 1 - j]?.getD (0, ⟨#[]⟩))
theorem down_top (ws : List (Int × ByteArray)) : down ws ws.length = [] := by simp [down]
theorem down_step {ws : List (Int × ByteArray)} {q : Nat} (h : q < ws.length) : down ws q = down ws (q + 1) ++ [(q, ws[q])] := by
  unfold down
  rw [show ws.length - q = (ws.length - (q + 1)) + 1 by omega, List.range_succ, List.map_append]
  congr 1
  have e : ws.length - 1 - (ws.length - (q + 1)) = q := by omega
  simp [e, List.getElem?_eq_getElem h]
theorem down_len (ws : List (Int × ByteArray)) (r : Nat) : (down ws r).length = ws.length - r := by simp [down]

set_option maxRecDepth 100000 in
set_option maxHeartbeats 2000000 in
theorem back1_in (F : Fence) (n : Nat) (h8 : F.fn 113) (hro : F.round = none) (hn : 1 ≤ n) (l Bs n₀ g cap : Nat) (ws : List (Int × ByteArray)) (hl : ws.length ≤ 1000) (hb : g < n₀) (hBn : Bs < n₀) (J Jx : List PW → World → Prop)
    (hY : ∀ pre x W, J pre W → pre.length < ws.length → YieldAt F (n - 1) Tryz.prog l (encPW x) W fun e W' =>
      (e = .returned (.bool true) ∧ J (pre ++ [x]) W' ∧ Below n₀ W W') ∨ (e = .returned (.bool false) ∧ Jx (pre ++ [x]) W'))
    (W : World) (hBs : W.cell? ⟨Bs, 0, none⟩ = some (.slice (some ⟨g, 0, none⟩) ws.length cap)) (hc : WRow W (.slice (some ⟨g, 0, none⟩) ws.length cap) ws) (h0 : J [] W) :
    CallsIn F n Tryz.prog 113 #[.func (.yield l) #[] #[], .pointer (some ⟨Bs, 0, none⟩)] W fun e W' => (∃ v, e = .returned v) ∧
      ((∃ ys, ys = down ws 0 ∧ J ys W') ∨ (∃ pre, (∃ r, r < ws.length ∧ pre = down ws r) ∧ Jx pre W')) := by
  have HC := Lib.hid hc
  clear hc
  refine callsIn_of_wp Tryz.func113 rfl h8 ?_ hro
  simp only [Tryz.ntmps113, List.size_toArray, List.length_cons, List.length_nil, Nat.reduceAdd, Nat.reduceSub, Array.replicate_succ, Array.replicate_zero, List.push_toArray, List.append_toArray, List.nil_append, List.cons_append]
  gi_wp2
  gi_loopw [3] (fun i wr => ∃ (r : Nat) (x : Int), r ≤ ws.length ∧ i = .int .i64 x ∧ x = r - 1 ∧ J (down ws r) wr ∧ Below n₀ W wr)
    (fun i _ => (RowKit.intOf i + 1).toNat)
  case atStart => exact ⟨ws.length, _, Nat.le_refl _, rfl, by go_num, by rw [down_top]; exact h0, Below.refl _ _⟩
  case round =>
    obtain ⟨r, x, hr, rfl, hx, hJs, hnx⟩ := hrel
    have HN := Lib.hid hnx
    have hbox := (hnx.cell (p := ⟨Bs, 0, none⟩) hBn).trans hBs
    cases r with
    | zero =>
      obtain rfl : x = -1 := by simpa using hx
      clear hnx hx
      gi_wp2
      go_end0
      exact ⟨⟨_, rfl⟩, .inl ⟨_, rfl, hJs⟩⟩
    | succ q =>
      obtain rfl : x = (q : Int) := by omega
      clear hx
      have hq : q < ws.length := by omega
      obtain ⟨g', e, hcap, hg', c1, c2⟩ := HC.out.at hq
      cases e
      have c1' := (hnx.cell (p := ⟨g, q * 2, none⟩) hb).trans c1
      have c2' := (hnx.cell (p := ⟨g, q * 2 + 1, none⟩) hb).trans c2
      have HS := Lib.hid (down_step hq)
      obtain ⟨fn, tmps, assign, body, hy, hR⟩ := hY _ (q, ws[q]) wr hJs (by rw [down_len]; omega)
      unfold encPW at hy
      dsimp only at hy
      clear hnx c1 c2
      generalize ws[q] = y at c1' c2' hy hR HS
      obtain ⟨ya, yd⟩ := y
      dsimp only at c1' c2' hy hR HS
      gi_wp2
      refine hR.mono ?_
      rintro e W3 (⟨rfl, hJ3, hk3⟩ | ⟨rfl, hJx3⟩)
      · gi_wp2
        go_roundw
        case rel => exact ⟨q, _, by omega, rfl, by go_num, by rw [HS.out]; exact hJ3, HN.out.trans hk3⟩
        case measure => simp [RowKit.intOf]
      · gi_wp2
        refine bodyPost_ret (results_none rfl _ _ _) rfl ?_
        exact ⟨⟨_, rfl⟩, .inr ⟨_, ⟨q, hq, HS.out.symm⟩, hJx3⟩⟩

set_option maxRecDepth 100000 in
set_option maxHeartbeats 1000000 in
theorem back1_nil_in (F : Fence) (n : Nat) (h8 : F.fn 113) (hro : F.round = none) (l Bs : Nat) (J : List PW → World → Prop) (W : World) (hBs : W.cell? ⟨Bs, 0, none⟩ = some (.slice none 0 0)) (h0 : J [] W) :
    CallsIn F n Tryz.prog 113 #[.func (.yield l) #[] #[], .pointer (some ⟨Bs, 0, none⟩)] W fun e W' => (∃ v, e = .returned v) ∧ J [] W' := by
  refine callsIn_of_wp Tryz.func113 rfl h8 ?_ hro
  simp only [Tryz.ntmps113, List.size_toArray, List.length_cons, List.length_nil, Nat.reduceAdd, Nat.reduceSub, Array.replicate_succ, Array.replicate_zero, List.push_toArray, List.append_toArray, List.nil_append, List.cons_append]
  gi_wp2
  gi_loopw [3] (fun i wr => i = .int .i64 (-1) ∧ J [] wr) (fun _ _ => 0)
  case atStart => exact ⟨rfl, h0⟩
  case round =>
    obtain ⟨rfl, hJs⟩ := hrel
    gi_wp2
    go_end0
    exact ⟨⟨_, rfl⟩, hJs⟩

set_option maxHeartbeats 1000000 in
theorem back_in (F : Fence) (n : Nat) (h6 : F.fn 100) (hro : F.round = none) (a : Option Addr) (len cap : Nat) (w : World) :
    CallsIn F n Tryz.prog 100 #[.slice a len cap] w fun e w' => e = .returned (.func (.func 113) #[] #[.pointer (some ⟨w.heap.size, 0, none⟩)]) ∧ w' = w.alloc (.cells #[.slice a len cap] 23) := by
  refine callsIn_of_wp Tryz.func100 rfl h6 ?_ hro
  simp only [Tryz.ntmps100, List.size_toArray, List.length_cons, List.length_nil, Nat.reduceAdd, Nat.reduceSub, Array.replicate_succ, Array.replicate_zero, List.push_toArray, List.append_toArray, List.nil_append, List.cons_append]
  gi_wp2
  go_ret
  exact ⟨rfl, rfl⟩

/-- What slices.Backward hands back goes through the writes from behind; n₀ lies behind its box and the row. -/
theorem back_stops (F : Fence) (n : Nat) (h8 : F.fn 113) (hro : F.round = none) (hn : 1 ≤ n) (Bs n₀ : Nat) (sv : Value) (ws : List (Int × ByteArray)) (hl : ws.length ≤ 1000) (w : World) (hBn : Bs < n₀) (hn₀ : n₀ ≤ w.heap.size)
    (hc : w.cell? ⟨Bs, 0, none⟩ = some sv) (hI : WRow w sv ws) (hlow : ∀ g len cap, sv = .slice (some ⟨g, 0, none⟩) len cap → g < n₀) :
    SeqStopsK F n Tryz.prog 113 #[.pointer (some ⟨Bs, 0, none⟩)] encPW (Below n₀) (fun ys => ys = down ws 0)
      (fun pre => ∃ r, r < ws.length ∧ pre = down ws r) ws.length w := fun l J Jx W hW _ _ hY h0 => by
  have hc' := (hW.cell (p := ⟨Bs, 0, none⟩) (by show Bs < _; omega)).trans hc
  have hI' := hI.below hW
  obtain ⟨a, cap, rfl⟩ := hI'.slice
  cases a with
  | none =>
    rcases hI' with ⟨e, rfl⟩ | ⟨_, _, e, _⟩
    · obtain rfl : cap = 0 := by cases e; rfl
      exact (back1_nil_in F n h8 hro l Bs J W hc' h0).mono fun e W' ⟨he, hj⟩ => ⟨he, .inl ⟨_, by simp [down], hj⟩⟩
    · cases e
  | some ad =>
    rcases hI' with ⟨e, _⟩ | ⟨g, cap', e, hrest⟩
    · cases e
    · cases e
      exact back1_in F n h8 hro hn l Bs n₀ g cap ws hl (hlow g _ _ rfl) hBn J Jx hY W hc' (.inr ⟨g, cap, rfl, hrest⟩) h0
end Go.Proofs.YtlpkalfbcphkmaaGreat.Disk

/-
  Contract of Get (package disk): what is read of a sector is the data of the last write at its place, or its own bytes.
-/
namespace Go.Proofs.YtlpkalfbcphkmaaGreat.Disk
open Go.ChangeShapes Go.WideShapes Go.ChangeAt Go.RowKit Go.Lib Go.Shelf
attribute [local go_sem] Oper.semAt_some

/-- What is read at place i, of those writes, where acc was there. -/
def rd (i : Int) (acc : ByteArray) (ws : List (Int × ByteArray)) : ByteArray := ws.foldl (fun a y => if y.1 = i then y.2 else a) acc
theorem rd_snoc (i : Int) (acc : ByteArray) (ws : List (Int × ByteArray)) (y : Int × ByteArray) : rd i acc (ws ++ [y]) = if y.1 = i then y.2 else rd i acc ws := by simp [rd, List.foldl_append]
theorem rd_none {i : Int} {acc : ByteArray} {ws : List (Int × ByteArray)} (h : ∀ y ∈ ws, y.1 ≠ i) : rd i acc ws = acc := by
  induction ws generalizing acc with
  | nil => rfl
  | cons y r ih =>
    unfold rd
    rw [List.foldl_cons, if_neg (h y (by simp))]
    exact ih fun z hz => h z (by simp [hz])
theorem rd_append (i : Int) (acc : ByteArray) (a b : List (Int × ByteArray)) : rd i acc (a ++ b) = rd i (rd i acc a) b := by simp [rd, List.foldl_append]
theorem rd_last {i : Int} {acc : ByteArray} {ws : List (Int × ByteArray)} {r : Nat} (hr : r < ws.length) (he : ws[r].1 = i) (h : ∀ j (hj : j < ws.length), r < j → ws[j].1 ≠ i) : rd i acc ws = ws[r].2 := by
  have e : rd i acc ws = rd i acc (ws.take r ++ [ws[r]] ++ ws.drop (r + 1)) := by congr 1; simp
  rw [e, rd_append, rd_none, rd_snoc, if_pos he]
  intro y hy
  obtain ⟨k, hk, rfl⟩ := List.mem_iff_getElem.1 hy
  rw [List.getElem_drop]
  exact h _ (by simp at hk; omega) (by omega)
theorem down_mem {ws : List (Int × ByteArray)} {r j : Nat} (hj : j < ws.length) (hr : r ≤ j) : (j, ws[j]) ∈ down ws r := by
  unfold down
  rw [List.mem_map]
  have e : ws.length - 1 - (ws.length - 1 - j) = j := by omega
  exact ⟨ws.length - 1 - j, by rw [List.mem_range]; omega, by simp [e, List.getElem?_eq_getElem hj]⟩

def TextE (s : ByteArray) (k : Int) (w : World) (e : Ending) (w' : World) : Prop := e = .returned (.tuple #[.string s, .int .i64 k]) ∧ Below w.heap.size w w'

/-- A block of one cell. -/
def Cell1 (b : Nat) (c : Value) (w : World) : Prop := b < w.heap.size ∧ w.cell? ⟨b, 0, none⟩ = some c ∧ w.frozen? ⟨b, 0, none⟩ = false
theorem Cell1.below {b : Nat} {c : Value} {w w' : World} (h : Cell1 b c w) (hb : Below w.heap.size w w') : Cell1 b c w' :=
  ⟨Nat.lt_of_lt_of_le h.1 hb.size, (hb.cell (p := ⟨b, 0, none⟩) h.1).trans h.2.1, (hb.frozen (p := ⟨b, 0, none⟩) h.1).trans h.2.2⟩
theorem Cell1.made (w : World) (c : Value) (T : TypeId) : Cell1 w.heap.size c (w.alloc (.cells #[c] T)) := by
  refine ⟨by simp, ?_, ?_⟩ <;> simp

/-- Block B is just two cells of a write. -/
def Two (W : World) (B : Nat) (v0 v1 : Value) : Prop := W.heap[B]? = some (.cells #[v0, v1] 59 (0, 0))
theorem Two.lt {W : World} {B : Nat} {v0 v1 : Value} (h : Two W B v0 v1) : B < W.heap.size := (Array.getElem?_eq_some_iff.1 h).1
theorem Two.cell0 {W : World} {B : Nat} {v0 v1 : Value} (h : Two W B v0 v1) : W.cell? ⟨B, 0, none⟩ = some v0 := by simp [World.cell?, show W.heap[B]? = _ from h]
theorem Two.cell1 {W : World} {B : Nat} {v0 v1 : Value} (h : Two W B v0 v1) : W.cell? ⟨B, 1, none⟩ = some v1 := by simp [World.cell?, show W.heap[B]? = _ from h]
theorem two_own {β : Type} (f0 f1 : β → Value) (B : Nat) : Own (fun s W => Two W B (f0 s) (f1 s)) := fun s X Y row hs hg hrow =>
  (hg.block B hs.lt (fun e' => by obtain ⟨o, ho, hc⟩ := hrow B e'.symm; rw [show X.heap[B]? = _ from hs] at ho; cases ho; cases hc)).trans hs

/-- Get's own blocks: the disk, the place, the two results. -/
def GB (w : World) (vS vW : Value) (i : Int) (W : World) : Prop :=
  Box2 w.heap.size vS vW W ∧ Cell1 (w.heap.size + 1) (.int .i64 i) W ∧ Cell1 (w.heap.size + 1 + 1) (.string ⟨#[]⟩) W ∧ Cell1 (w.heap.size + 1 + 1 + 1) (.int .i64 0) W ∧ Below w.heap.size w W
theorem GB.below {w W W' : World} {vS vW : Value} {i : Int} (h : GB w vS vW i W) (hb : Below W.heap.size W W') : GB w vS vW i W' :=
  ⟨h.1.below hb, h.2.1.below hb, h.2.2.1.below hb, h.2.2.2.1.below hb, below_trans h.2.2.2.2 hb⟩
/-- The world behind Get's first operations. -/
def getW (w : World) (vS vW : Value) (i : Int) : World := (((w.alloc (.cells #[vS, vW] 25)).alloc (.cells #[.int .i64 i] 3)).alloc (.cells #[.string ⟨#[]⟩] 9)).alloc (.cells #[.int .i64 0] 30)
theorem GB.made (w : World) (vS vW : Value) (i : Int) : GB w vS vW i (getW w vS vW i) := by
  have b1 := Box2.made w vS vW 25
  have h1 : ∀ (W : World) o, Below W.heap.size W (W.alloc o) := fun W o => (Below.refl _ _).alloc (Nat.le_refl _) _
  have b2 := Cell1.made (w.alloc (.cells #[vS, vW] 25)) (.int .i64 i) 3
  have b3 := Cell1.made ((w.alloc (.cells #[vS, vW] 25)).alloc (.cells #[.int .i64 i] 3)) (.string ⟨#[]⟩) 9
  have b4 := Cell1.made (((w.alloc (.cells #[vS, vW] 25)).alloc (.cells #[.int .i64 i] 3)).alloc (.cells #[.string ⟨#[]⟩] 9)) (.int .i64 0) 30
  simp only [World.size_alloc] at b2 b3 b4
  exact ⟨((b1.below (h1 _ _)).below (h1 _ _)).below (h1 _ _), (b2.below (h1 _ _)).below (h1 _ _), b3.below (h1 _ _), b4, below_trans (below_trans (below_trans (h1 _ _) (h1 _ _)) (h1 _ _)) (h1 _ _)⟩
/-- Between two rounds: none of those that came was at place i; nothing that lay when the loop began has turned. -/
def GetI (W1 : World) (i : Int) (pre : List PW) (W : World) : Prop := (∀ p ∈ pre, p.2.1 ≠ i) ∧ Below W1.heap.size W1 W
/-- Behind the round that returns: the last that came is the first at place i. -/
def GetX (w : World) (i : Int) (c : Code) (pre : List PW) (W : World) : Prop :=
  (c = .ret ∧ ∃ ini last, pre = ini ++ [last] ∧ (∀ p ∈ ini, p.2.1 ≠ i) ∧ last.2.1 = i ∧ W.cell? ⟨w.heap.size + 1 + 1, 0, none⟩ = some (.string last.2.2) ∧ W.cell? ⟨w.heap.size + 1 + 1 + 1, 0, none⟩ = some (.int .i64 0)) ∧ Below w.heap.size w W
theorem getI_own (W1 : World) (i : Int) : OwnFrom W1.heap.size (GetI W1 i) :=
  OwnFrom.and (Own.from (fun _ _ _ _ hs _ _ => hs) _) (ownFrom_below (Nat.le_refl _) (Nat.le_refl _))
theorem getX_own {w W1 : World} (h : Below w.heap.size w W1) (i : Int) (c : Code) : OwnFrom W1.heap.size (GetX w i c) :=
  OwnFrom.and (Own.from (fun s A B row hs hg hr => by obtain ⟨hc, ini, last, e1, e2, e3, e4, e5⟩ := hs; exact ⟨hc, ini, last, e1, e2, e3, cell_kept e4 hg hr, cell_kept e5 hg hr⟩) _) (ownFrom_below (Nat.le_refl _) h.size)
theorem getI_snoc {W1 : World} {i : Int} {pre : List PW} {W : World} (h : GetI W1 i pre W) {x : PW} (hx : x.2.1 ≠ i) : GetI W1 i (pre ++ [x]) W :=
  ⟨fun p hp => (List.mem_append.1 hp).elim (h.1 p) (fun e => by obtain rfl := List.mem_singleton.1 e; exact hx), h.2⟩
theorem rd_all {ws : List (Int × ByteArray)} {i : Int} {acc : ByteArray} (h : ∀ p ∈ down ws 0, p.2.1 ≠ i) : rd i acc ws = acc := rd_none fun y hy => by
  obtain ⟨k, hk, rfl⟩ := List.mem_iff_getElem.1 hy
  exact h _ (down_mem hk (Nat.zero_le _))
theorem rd_some {ws : List (Int × ByteArray)} {i : Int} {acc : ByteArray} {r : Nat} (hr : r < ws.length) {ini : List PW} {last : PW} (e : down ws r = ini ++ [last]) (h : ∀ p ∈ ini, p.2.1 ≠ i) (hl : last.2.1 = i) : rd i acc ws = last.2.2 := by
  rw [down_step hr] at e
  obtain ⟨rfl, e5⟩ := List.append_inj' e rfl
  obtain rfl : (r, ws[r]) = last := by simpa using e5
  exact rd_last hr hl fun j hj hrj => h _ (down_mem hj (by omega))

/-- Stores into the results. -/
theorem GB.stored {w W : World} {vS vW : Value} {i : Int} (h : GB w vS vW i W) (u0 u1 : Value) :
    ((W.setCell ⟨w.heap.size + 1 + 1, 0, none⟩ u0).setCell ⟨w.heap.size + 1 + 1 + 1, 0, none⟩ u1).cell? ⟨w.heap.size + 1 + 1, 0, none⟩ = some u0 ∧
    ((W.setCell ⟨w.heap.size + 1 + 1, 0, none⟩ u0).setCell ⟨w.heap.size + 1 + 1 + 1, 0, none⟩ u1).cell? ⟨w.heap.size + 1 + 1 + 1, 0, none⟩ = some u1 ∧
    Below w.heap.size w ((W.setCell ⟨w.heap.size + 1 + 1, 0, none⟩ u0).setCell ⟨w.heap.size + 1 + 1 + 1, 0, none⟩ u1) := by
  obtain ⟨_, _, ⟨_, c1, _⟩, ⟨_, c2, _⟩, hb⟩ := h
  have n01 : (⟨w.heap.size + 1 + 1, 0, none⟩ : Addr) ≠ ⟨w.heap.size + 1 + 1 + 1, 0, none⟩ := by simp
  refine ⟨?_, ?_, (hb.setCell (p := ⟨w.heap.size + 1 + 1, 0, none⟩) (by simp; omega) _).setCell (p := ⟨w.heap.size + 1 + 1 + 1, 0, none⟩) (by simp; omega) _⟩
  · rw [World.cell?_setCell_other _ _ _ _ n01.symm]; exact World.cell?_setCell_same _ _ _ c1
  · exact World.cell?_setCell_same _ _ _ (u := .int .i64 0) (by rw [World.cell?_setCell_other _ _ _ _ n01]; exact c2)

set_option maxHeartbeats 1000000 in
set_option maxRecDepth 100000 in
theorem Get_bad {vS vW : Value} {ls : List ByteArray} {ws : List (Int × ByteArray)} {w : World} (hS : SRow w vS ls) (hW : WRow w vW ws) (hr : smallP ls ws) (hb : rightB ls ws = false) (i : Int) : Calls Tryz.prog 80 #[.agg #[vS, vW], .int .i64 i] w (TextE ⟨#[]⟩ 1 w) := by
  have HR := Lib.hid (fun W (h : Below w.heap.size w W) => hb ▸ Right_any (hS.below h) (hW.below h) hr)
  obtain ⟨aS, cap, rfl⟩ := hS.slice
  obtain ⟨aW, capW, rfl⟩ := hW.slice
  have HG := Lib.hid (GB.made w (.slice aS ls.length cap) (.slice aW ws.length capW) i)
  clear hS hW
  go_enter Tryz.func80, Tryz.ntmps80
  go_wp2_with fail
  refine (HR.out _ HG.out.2.2.2.2).mono ?_
  rintro e x ⟨rfl, hx⟩
  have HX := Lib.hid (HG.out.below hx)
  obtain ⟨⟨b0, b1, b2, b3, b4⟩, ⟨d0, d1, d2⟩, ⟨f0, f1, f2⟩, ⟨k0, k1, k2⟩, _⟩ := HX.out
  have HZ := Lib.hid (HX.out.stored (.string ⟨#[]⟩) (.int .i64 1))
  clear hx HG
  go_wp2_with fail
  obtain ⟨z1, z2, z3⟩ := HZ.out
  exact bodyPost_ret (v := .tuple #[.string ⟨#[]⟩, .int .i64 1]) (by simp [results, Tryz.results80, go_sem, z1, z2]) rfl ⟨rfl, z3⟩

set_option maxHeartbeats 1000000 in
set_option maxRecDepth 100000 in
theorem Get_none {vS vW : Value} {ls : List ByteArray} {ws : List (Int × ByteArray)} {w : World} (hS : SRow w vS ls) (hW : WRow w vW ws) (hr : smallP ls ws) (hb : rightB ls ws = true) (i : Int) (hi : hasB ls.length i = false) : Calls Tryz.prog 80 #[.agg #[vS, vW], .int .i64 i] w (TextE ⟨#[]⟩ 8 w) := by
  have HR := Lib.hid (fun W (h : Below w.heap.size w W) => hb ▸ Right_any (hS.below h) (hW.below h) hr)
  obtain ⟨aS, cap, rfl⟩ := hS.slice
  obtain ⟨aW, capW, rfl⟩ := hW.slice
  have HG := Lib.hid (GB.made w (.slice aS ls.length cap) (.slice aW ws.length capW) i)
  have HH := Lib.hid (fun W => hi ▸ has_any aS ls.length cap (.slice aW ws.length capW) i W)
  clear hS hW
  go_enter Tryz.func80, Tryz.ntmps80
  go_wp2_with fail
  refine (HR.out _ HG.out.2.2.2.2).mono ?_
  rintro e x ⟨rfl, hx⟩
  have HX := Lib.hid (HG.out.below hx)
  obtain ⟨⟨b0, b1, b2, b3, b4⟩, ⟨d0, d1, d2⟩, ⟨f0, f1, f2⟩, ⟨k0, k1, k2⟩, _⟩ := HX.out
  clear hx HG
  go_wp2_with fail
  refine (HH.out _).mono ?_
  rintro e y ⟨rfl, hy⟩
  clear b0 b1 b2 b3 b4 d0 d1 d2 f0 f1 f2 k0 k1 k2
  have HY := Lib.hid (HX.out.below hy)
  obtain ⟨⟨b0, b1, b2, b3, b4⟩, ⟨d0, d1, d2⟩, ⟨f0, f1, f2⟩, ⟨k0, k1, k2⟩, _⟩ := HY.out
  have HZ := Lib.hid (HY.out.stored (.string ⟨#[]⟩) (.int .i64 8))
  clear hy HX
  go_wp2_with fail
  obtain ⟨z1, z2, z3⟩ := HZ.out
  exact bodyPost_ret (v := .tuple #[.string ⟨#[]⟩, .int .i64 8]) (by simp [results, Tryz.results80, go_sem, z1, z2]) rfl ⟨rfl, z3⟩

set_option maxHeartbeats 2000000 in
set_option maxRecDepth 100000 in
theorem Get_yes {vS vW : Value} {ls : List ByteArray} {ws : List (Int × ByteArray)} {w : World} (hS : SRow w vS ls) (hW : WRow w vW ws) (hr : smallP ls ws) (hb : rightB ls ws = true) (i : Nat) (hi : i < ls.length) : Calls Tryz.prog 80 #[.agg #[vS, vW], .int .i64 i] w (TextE (rd i ls[i] ws) 0 w) := by
  have hh : hasB ls.length i = true := hasB_t.2 ⟨by omega, by omega⟩
  have HR := Lib.hid (fun W (h : Below w.heap.size w W) => hb ▸ Right_any (hS.below h) (hW.below h) hr)
  obtain ⟨aS, cap, rfl⟩ := hS.slice
  obtain ⟨aW, capW, rfl⟩ := hW.slice
  have HG := Lib.hid (GB.made w (.slice aS ls.length cap) (.slice aW ws.length capW) i)
  have HH := Lib.hid (fun W => hh ▸ has_any aS ls.length cap (.slice aW ws.length capW) i W)
  have HS := Lib.hid hS
  have HW := Lib.hid hW
  clear hS hW
  refine (callsIn_wide (n := 5)).1 ?_
  refine callsIn_of_wp_marks Tryz.func80 rfl trivial ?_ rfl
  simp only [Tryz.ntmps80, List.size_toArray, List.length_cons, List.length_nil, Nat.reduceAdd, Nat.reduceSub, Array.replicate_succ, Array.replicate_zero, List.push_toArray, List.append_toArray, List.nil_append, List.cons_append]
  gi_wp2_with fail
  refine ⟨trivial, (callsIn_wide.2 (HR.out _ HG.out.2.2.2.2)).mono ?_⟩
  rintro e x ⟨rfl, hx⟩
  have HX := Lib.hid (HG.out.below hx)
  obtain ⟨⟨b0, b1, b2, b3, b4⟩, ⟨d0, d1, d2⟩, ⟨f0, f1, f2⟩, ⟨k0, k1, k2⟩, _⟩ := HX.out
  clear hx HG
  gi_wp2_with fail
  refine ⟨trivial, (callsIn_wide.2 (HH.out _)).mono ?_⟩
  rintro e y ⟨rfl, hy⟩
  clear b0 b1 b2 b3 b4 d0 d1 d2 f0 f1 f2 k0 k1 k2
  have HY := Lib.hid (HX.out.below hy)
  obtain ⟨⟨b0, b1, b2, b3, b4⟩, ⟨d0, d1, d2⟩, ⟨f0, f1, f2⟩, ⟨k0, k1, k2⟩, _⟩ := HY.out
  clear hy HX
  gi_wp2_with fail
  refine ⟨trivial, (back_in Fence.wide _ trivial rfl _ _ _ _).mono ?_⟩
  rintro e z ⟨rfl, rfl⟩
  gi_wp2_with fail
  have hal : Below y.heap.size y (y.alloc (.cells #[.slice aW ws.length capW] 23)) := (Below.refl _ _).alloc (Nat.le_refl _) _
  have HG := Lib.hid (HY.out.below hal)
  have hbox := Cell1.made y (.slice aW ws.length capW) 23
  have HSW := Lib.hid (HS.out.below HG.out.2.2.2.2)
  have HWW := Lib.hid (HW.out.below HG.out.2.2.2.2)
  have hlow : ∀ g len cap, Value.slice aW ws.length capW = .slice (some ⟨g, 0, none⟩) len cap → g < (y.alloc (.cells #[.slice aW ws.length capW] 23)).heap.size := by
    intro g len cap e
    rcases HWW.out with ⟨e', _⟩ | ⟨g', cap', e', _, hg, _⟩
    · rw [e] at e'; cases e'
    · rw [e] at e'; cases e'; exact hg
  generalize (y.alloc (.cells #[.slice aW ws.length capW] 23)) = W1 at HG hbox HSW HWW hlow ⊢
  clear hal b0 b1 b2 b3 b4 d0 d1 d2 f0 f1 f2 k0 k1 k2
  refine wpIn_rangeFunc_ownH rfl (by omega) (gf := 113) (lb := #[.pointer (some ⟨y.heap.size, 0, none⟩)]) rfl trivial (enters_of Tryz.func113 (by kernel_rfl) rfl)
    (back_stops Fence.wide _ trivial rfl (by omega) y.heap.size W1.heap.size (.slice aW ws.length capW) ws hr.2.1 W1 hbox.1 (Nat.le_refl _) hbox.2.1 HWW.out hlow) belowK_t (belowK_b (Nat.le_refl _)) (Below.refl _ _) (fun _ => rfl)
    (GetI W1 i) (GetX w i) (getI_own W1 i) (getX_own HG.out.2.2.2.2 i) ⟨by simp, Below.refl _ _⟩
    (fun x a' W => ∃ Bx, W1.heap.size ≤ Bx ∧ Two W Bx (.int .i64 x.2.1) (.string x.2.2) ∧ a' = { tmps := #[.agg #[.slice aS ls.length cap, .slice aW ws.length capW], .int .i64 i, .pointer (some ⟨w.heap.size, 0, none⟩), .pointer (some ⟨w.heap.size + 1, 0, none⟩), .pointer (some ⟨w.heap.size + 1 + 1, 0, none⟩), .pointer (some ⟨w.heap.size + 1 + 1 + 1, 0, none⟩), undef, .pointer (some ⟨Bx, 0, none⟩), .agg #[.slice aS ls.length cap, .slice aW ws.length capW], .bool true, .bool false, .agg #[.slice aS ls.length cap, .slice aW ws.length capW], .int .i64 i, .bool true, .bool false, .pointer (some ⟨w.heap.size, 1, none⟩), .slice aW ws.length capW, .func (.func 113) #[] #[.pointer (some ⟨y.heap.size, 0, none⟩)], .int .i64 (x.1 : Int), .agg #[.int .i64 x.2.1, .string x.2.2], undef, undef, undef, undef, undef, undef, undef, undef, undef, undef, undef], defers := [] })
    (fun x a' => fun s A B row hs hg hr => by obtain ⟨Bx, e1, e2, e3⟩ := hs; exact ⟨Bx, e1, two_own (fun _ : Unit => (Value.int .i64 x.2.1)) (fun _ => (Value.string x.2.2)) Bx () A B row e2 hg (fun r e => (hr r e).2), e3⟩) ?assign ?body ?done ?stop
  case assign =>
    rintro l pre x W K hi hK
    simp only [encPW]
    gi_wp2
    exact hK _ _ ((KeepsOthers.alloc _ _).from _) ((Below.refl _ W).alloc hi.2.size _) ⟨hi.1, hi.2.alloc hi.2.size _⟩ ⟨W.heap.size, hi.2.size, World.alloc_heap_new W _, rfl⟩
  case body =>
    rintro l pre x a' W hl ⟨r, hr⟩ hp ⟨Bx, hBx, bX, rfl⟩ hlt
    have HP := Lib.hid hp
    have HGW := Lib.hid (HG.out.below hp.2)
    obtain ⟨⟨b0, b1, b2, b3, b4⟩, ⟨d0, d1, d2⟩, ⟨f0, f1, f2⟩, ⟨k0, k1, k2⟩, _⟩ := HGW.out
    have hx0 := bX.cell0
    have hx1 := bX.cell1
    clear hp
    obtain ⟨xi, xa, xd⟩ := x
    dsimp only at hx0 hx1 ⊢
    have HZ := Lib.hid (HGW.out.stored (.string xd) (.int .i64 0))
    by_cases hxa : xa = i
    · subst hxa
      gi_wp2
      exact ⟨((KeepsOthers.setCell _ _ _).trans (KeepsOthers.setCell _ _ _)).from _, ⟨rfl, pre, (xi, i, xd), rfl, HP.out.1, rfl, HZ.out.1, HZ.out.2.1⟩, HZ.out.2.2⟩
    · have HXA := Lib.hid hxa
      gi_wp2
      exact ⟨KeepsFrom.refl _ _, Below.refl _ _, getI_snoc HP.out HXA.out⟩
  case done =>
    rintro D ys W hD rfl ⟨hne, hB⟩ hK
    have HGW := Lib.hid (HG.out.below hB)
    obtain ⟨⟨b0, b1, b2, b3, b4⟩, ⟨d0, d1, d2⟩, ⟨f0, f1, f2⟩, ⟨k0, k1, k2⟩, _⟩ := HGW.out
    obtain ⟨gs, rfl, hcap, hgs, hce⟩ := (HSW.out.below hB).at hi
    have hne' := rd_all (acc := ls[i]) hne
    obtain ⟨r, hlr⟩ : ∃ r, ls[i] = r := ⟨_, rfl⟩
    have HNE : Hid (rd i ls[i] ws = r) := hne'.trans hlr
    rw [hlr] at hce
    have HZ := Lib.hid (HGW.out.stored (.string r) (.int .i64 0))
    clear hne hB hne' hlr
    gi_wp2
    obtain ⟨z1, z2, z3⟩ := HZ.out
    have hK' := ((KeepsOthers.setCell W ⟨w.heap.size + 1 + 1, 0, none⟩ (.string r)).trans (KeepsOthers.setCell _ ⟨w.heap.size + 1 + 1 + 1, 0, none⟩ (.int .i64 0))).same D _ hK rfl
    refine ⟨by simp, .inl ⟨_, _, rfl, run_takeDeferred hK', ?_⟩⟩
    have y1 := cell_kept z1 (grownBy_putObj' _ D (.deferred none)) (fun r e => by cases e; exact ⟨_, hK', rfl⟩)
    have y2 := cell_kept z2 (grownBy_putObj' _ D (.deferred none)) (fun r e => by cases e; exact ⟨_, hK', rfl⟩)
    refine ⟨.tuple #[.string r, .int .i64 0], ?_, by rw [HNE.out], z3.trans (belowK_b (w := W1) HG.out.2.2.2.2.size _ D _ _ hD hK' rfl rfl)⟩
    simp [results, Tryz.results80, go_sem, y1, y2]
  case stop =>
    rintro D c pre W hD ⟨r, hr, rfl⟩ ⟨⟨rfl, ini, last, e1, e2, e3, c1, c2⟩, hB⟩ hK
    have HN := Lib.hid (rd_some (acc := ls[i]) hr e1 e2 e3)
    clear e1 e2 e3
    gi_wp2
    refine ⟨by simp, .inl ⟨_, _, rfl, run_takeDeferred hK, ?_⟩⟩
    have y1 := cell_kept c1 (grownBy_putObj' _ D (.deferred none)) (fun r e => by cases e; exact ⟨_, hK, rfl⟩)
    have y2 := cell_kept c2 (grownBy_putObj' _ D (.deferred none)) (fun r e => by cases e; exact ⟨_, hK, rfl⟩)
    refine ⟨.tuple #[.string last.2.2, .int .i64 0], ?_, by rw [HN.out], hB.trans (belowK_b (w := W1) HG.out.2.2.2.2.size _ D _ _ hD hK rfl rfl)⟩
    simp [results, Tryz.results80, go_sem, y1, y2]
end Go.Proofs.YtlpkalfbcphkmaaGreat.Disk
