/-
  Disks as they lie in memory: a row of texts, a row of writes; contracts of mayHave, has and Right of package disk, and of the reference's Right.
-/
import Derived.Test.YthoeidgekogfiaaChecked
import Derived.WalkKit
import Derived.ProofKit
import Derived.OpenShut
import Derived.IntWalk
import Derived.OwnWalk
import Derived.WalkSpells
import Derived.Below
import Derived.Laws.AppendOwn
import Derived.Laws.IdiomStrings
import Derived.Deep.Draws
import Derived.Deep.QuietTactic
import Derived.BigQuiet
import Derived.Deep.Cut
import Derived.Lib.Hide
import Derived.PlainAid
namespace Go.Proofs.Ythoeidgekogfiaa.Disk
open Go.ChangeShapes Go.WideShapes Go.ChangeAt Go.RowKit Go.Lib

theorem below_trans {a b c : World} (h : Below a.heap.size a b) (h' : Below b.heap.size b c) : Below a.heap.size a c := h.trans (h'.mono h.size)
theorem addr_at (g j : Nat) : (⟨g, 0, none⟩ : Addr).add j = ⟨g, j, none⟩ := by
  simp [Addr.add]
  intro h; exact h.symm

/-- The slice v is the row of texts ls. -/
def SRow (w : World) (v : Value) (ls : List ByteArray) : Prop :=
  (v = .slice none 0 0 ∧ ls = []) ∨ ∃ g cap, v = .slice (some ⟨g, 0, none⟩) ls.length cap ∧ ls.length ≤ cap ∧ g < w.heap.size ∧ ∀ j (h : j < ls.length), w.cell? ⟨g, j, none⟩ = some (.string ls[j])
/-- The slice v is the row of writes ws. -/
def WRow (w : World) (v : Value) (ws : List (Int × ByteArray)) : Prop :=
  (v = .slice none 0 0 ∧ ws = []) ∨ ∃ g cap, v = .slice (some ⟨g, 0, none⟩) ws.length cap ∧ ws.length ≤ cap ∧ g < w.heap.size ∧ ∀ j (h : j < ws.length), w.cell? ⟨g, j * 2, none⟩ = some (.int .i64 ws[j].1) ∧ w.cell? ⟨g, j * 2 + 1, none⟩ = some (.string ws[j].2)
theorem SRow.below {w w' : World} {v : Value} {ls : List ByteArray} (h : SRow w v ls) (hb : Below w.heap.size w w') : SRow w' v ls := by
  rcases h with h | ⟨g, cap, hv, hc, hg, hcell⟩
  · exact .inl h
  · exact .inr ⟨g, cap, hv, hc, Nat.lt_of_lt_of_le hg hb.size, fun j hj => (hb.cell (p := ⟨g, j, none⟩) hg).trans (hcell j hj)⟩
theorem WRow.below {w w' : World} {v : Value} {ws : List (Int × ByteArray)} (h : WRow w v ws) (hb : Below w.heap.size w w') : WRow w' v ws := by
  rcases h with h | ⟨g, cap, hv, hc, hg, hcell⟩
  · exact .inl h
  · exact .inr ⟨g, cap, hv, hc, Nat.lt_of_lt_of_le hg hb.size, fun j hj => ⟨(hb.cell (p := ⟨g, j * 2, none⟩) hg).trans (hcell j hj).1, (hb.cell (p := ⟨g, j * 2 + 1, none⟩) hg).trans (hcell j hj).2⟩⟩
theorem SRow.slice {w : World} {v : Value} {ls : List ByteArray} (h : SRow w v ls) : ∃ a cap, v = .slice a ls.length cap := by
  rcases h with ⟨rfl, rfl⟩ | ⟨g, cap, rfl, _⟩
  · exact ⟨_, _, rfl⟩
  · exact ⟨_, _, rfl⟩
theorem WRow.slice {w : World} {v : Value} {ws : List (Int × ByteArray)} (h : WRow w v ws) : ∃ a cap, v = .slice a ws.length cap := by
  rcases h with ⟨rfl, rfl⟩ | ⟨g, cap, rfl, _⟩
  · exact ⟨_, _, rfl⟩
  · exact ⟨_, _, rfl⟩

theorem ret_int {k : IntKind} {a b : Int} (h : a = b) : Ending.returned (.int k a) = .returned (.int k b) := by rw [h]
theorem v_int {k : IntKind} {a b : Int} (h : a = b) : Value.int k a = .int k b := by rw [h]
theorem ret_bool {a b : Bool} (h : a = b) : Ending.returned (.bool a) = .returned (.bool b) := by rw [h]

/-- A Boolean is returned; nothing that lay has turned. -/
def BoolB (b : Bool) (w : World) (e : Ending) (w' : World) : Prop := e = .returned (.bool b) ∧ Below w.heap.size w w'

/-- How many sectors a disk may have. -/
def mayB (n : Int) : Bool := decide (1 ≤ n) && decide (n ≤ 512)
theorem mayB_t {n : Int} : mayB n = true ↔ (1 ≤ n ∧ n ≤ 512) := by unfold mayB; simp
theorem mayB_f {n : Int} : mayB n = false ↔ ¬ (1 ≤ n ∧ n ≤ 512) := by rw [← mayB_t]; simp
theorem mayHave_any (n : Int) (w : World) : Calls Try.prog 19 #[.int .i64 n] w fun e w' => e = .returned (.bool (mayB n)) ∧ w = w' := by
  go_enter Try.func19, Try.ntmps19
  go_wp2
  all_goals go_ret
  · rename_i h
    exact ⟨ret_bool (by simp [mayB, h]), rfl⟩
  · rename_i h
    exact ⟨ret_bool (by simp [mayB]; omega), rfl⟩

/-- Is there a sector of that place? -/
def hasB (n : Nat) (at_ : Int) : Bool := decide (0 ≤ at_) && decide (at_ < n)
theorem hasB_t {n : Nat} {i : Int} : hasB n i = true ↔ (0 ≤ i ∧ i < n) := by unfold hasB; simp
theorem has_any (a : Option Addr) (n cap : Nat) (vW : Value) (at_ : Int) (w : World) : Calls Try.prog 21 #[.agg #[.slice a n cap, vW], .int .i64 at_] w (BoolB (hasB n at_) w) := by
  go_enter Try.func21, Try.ntmps21
  go_wp2
  all_goals go_ret
  · rename_i h
    exact ⟨ret_bool (by simp [hasB, h]), (Below.refl _ _).alloc (Nat.le_refl _) _⟩
  · rename_i h
    exact ⟨ret_bool (by simp [hasB]; omega), (Below.refl _ _).alloc (Nat.le_refl _) _⟩

/-- A block of two cells. -/
def Box2 (b : Nat) (c0 c1 : Value) (w : World) : Prop := b < w.heap.size ∧ w.cell? ⟨b, 0, none⟩ = some c0 ∧ w.cell? ⟨b, 1, none⟩ = some c1 ∧ w.frozen? ⟨b, 0, none⟩ = false ∧ w.frozen? ⟨b, 1, none⟩ = false
theorem Box2.below {b : Nat} {c0 c1 : Value} {w w' : World} (h : Box2 b c0 c1 w) (hb : Below w.heap.size w w') : Box2 b c0 c1 w' := by
  obtain ⟨h0, h1, h2, h3, h4⟩ := h
  exact ⟨Nat.lt_of_lt_of_le h0 hb.size, (hb.cell (p := ⟨b, 0, none⟩) h0).trans h1, (hb.cell (p := ⟨b, 1, none⟩) h0).trans h2, (hb.frozen (p := ⟨b, 0, none⟩) h0).trans h3, (hb.frozen (p := ⟨b, 1, none⟩) h0).trans h4⟩
theorem Box2.made (w : World) (c0 c1 : Value) (T : TypeId) : Box2 w.heap.size c0 c1 (w.alloc (.cells #[c0, c1] T)) := by
  refine ⟨by simp, ?_, ?_, ?_, ?_⟩ <;> simp
theorem Box2.set {b : Nat} {c0 c1 : Value} {w : World} (h : Box2 b c0 c1 w) (u0 u1 : Value) : Box2 b u0 u1 ((w.setCell ⟨b, 0, none⟩ u0).setCell ⟨b, 1, none⟩ u1) := by
  obtain ⟨h0, h1, h2, h3, h4⟩ := h
  have n01 : (⟨b, 0, none⟩ : Addr) ≠ ⟨b, 1, none⟩ := by simp
  have g1 : (w.setCell ⟨b, 0, none⟩ u0).cell? ⟨b, 1, none⟩ = some c1 := by rw [World.cell?_setCell_other _ _ _ _ n01]; exact h2
  refine ⟨by simpa using h0, ?_, World.cell?_setCell_same _ _ _ g1, ?_, ?_⟩
  · rw [World.cell?_setCell_other _ _ _ _ n01.symm]; exact World.cell?_setCell_same _ _ _ h1
  · rw [World.frozen?_setCell, World.frozen?_setCell]; exact h3
  · rw [World.frozen?_setCell, World.frozen?_setCell]; exact h4

/-- A disk may be. -/
def rightP (ls : List ByteArray) (ws : List (Int × ByteArray)) : Prop :=
  1 ≤ ls.length ∧ ls.length ≤ 512 ∧ ws.length ≤ 64 ∧ (∀ j (h : j < ls.length), ls[j].size = 64) ∧ ∀ j (h : j < ws.length), 0 ≤ ws[j].1 ∧ ws[j].1 < ls.length ∧ ws[j].2.size = 64
/-- A disk's texts are not too long. -/
def smallP (ls : List ByteArray) (ws : List (Int × ByteArray)) : Prop :=
  ls.length ≤ 1000 ∧ ws.length ≤ 1000 ∧ (∀ j (h : j < ls.length), ls[j].size ≤ 1000000) ∧ ∀ j (h : j < ws.length), ws[j].2.size ≤ 1000000

open Classical in
noncomputable def rightB (ls : List ByteArray) (ws : List (Int × ByteArray)) : Bool := decide (rightP ls ws)
theorem rightB_t {ls : List ByteArray} {ws : List (Int × ByteArray)} : rightB ls ws = true ↔ rightP ls ws := by unfold rightB; simp
theorem rightB_f {ls : List ByteArray} {ws : List (Int × ByteArray)} : rightB ls ws = false ↔ ¬ rightP ls ws := by unfold rightB; simp
/-- The first k sectors, and the first q writes, are as they should be. -/
def Secs (ls : List ByteArray) (k : Nat) : Prop := ∀ j (h : j < ls.length), j < k → ls[j].size = 64
def Wrts (n : Nat) (ws : List (Int × ByteArray)) (k : Nat) : Prop := ∀ j (h : j < ws.length), j < k → 0 ≤ ws[j].1 ∧ ws[j].1 < n ∧ ws[j].2.size = 64
theorem secs_succ {ls : List ByteArray} {k : Nat} (h : Secs ls k) (hk : k < ls.length) (e : ls[k].size = 64) : Secs ls (k + 1) := fun j hj hjk => by
  by_cases c : j = k
  · subst c; exact e
  · exact h j hj (by omega)
theorem wrts_succ {n : Nat} {ws : List (Int × ByteArray)} {k : Nat} (h : Wrts n ws k) (hk : k < ws.length) (e : 0 ≤ ws[k].1 ∧ ws[k].1 < n ∧ ws[k].2.size = 64) : Wrts n ws (k + 1) := fun j hj hjk => by
  by_cases c : j = k
  · subst c; exact e
  · exact h j hj (by omega)
theorem right_sec {ls : List ByteArray} {ws : List (Int × ByteArray)} {k : Nat} (hk : k < ls.length) (e : ¬ ls[k].size = 64) : false = rightB ls ws := (rightB_f.2 fun h => e (h.2.2.2.1 k hk)).symm
theorem right_wrt {ls : List ByteArray} {ws : List (Int × ByteArray)} {k : Nat} (hk : k < ws.length) (e : ¬ (0 ≤ ws[k].1 ∧ ws[k].1 < ls.length ∧ ws[k].2.size = 64)) : false = rightB ls ws := (rightB_f.2 fun h => e (h.2.2.2.2 k hk)).symm

/-- What holds at the head of a loop over the writes of a disk that lies in a block of its own. -/
def Rounds (w : World) (m : Nat) (vS vW : Value) (X : Nat → Prop) (i : Value) (wr : World) : Prop :=
  ∃ k : Nat, k ≤ m ∧ i = .int .i64 k ∧ X k ∧ Box2 w.heap.size vS vW wr ∧ Below w.heap.size w wr

/-- A block of two cells made in a round, behind a call. -/
theorem round_step {w wr w' : World} {vS vW c0 c1 : Value} {T : TypeId} (hbx : Box2 w.heap.size vS vW wr) (hbe : Below w.heap.size w wr) (hb : Below (wr.alloc (.cells #[c0, c1] T)).heap.size (wr.alloc (.cells #[c0, c1] T)) w') :
    Box2 wr.heap.size c0 c1 w' ∧ Box2 w.heap.size vS vW w' ∧ Below w.heap.size w w' := by
  have h1 : Below wr.heap.size wr (wr.alloc (.cells #[c0, c1] T)) := (Below.refl _ _).alloc (Nat.le_refl _) _
  exact ⟨(Box2.made wr c0 c1 T).below hb, hbx.below (below_trans h1 hb), below_trans hbe (below_trans h1 hb)⟩

theorem WRow.at {w : World} {a : Option Addr} {cap : Nat} {ws : List (Int × ByteArray)} (h : WRow w (.slice a ws.length cap) ws) {q : Nat} (hq : q < ws.length) :
    ∃ gw, a = some ⟨gw, 0, none⟩ ∧ ws.length ≤ cap ∧ gw < w.heap.size ∧ w.cell? ⟨gw, q * 2, none⟩ = some (.int .i64 ws[q].1) ∧ w.cell? ⟨gw, q * 2 + 1, none⟩ = some (.string ws[q].2) := by
  rcases h with ⟨_, rfl⟩ | ⟨gw, cw, hv, hcw, hgw, hcell⟩
  · simp at hq
  · cases hv
    exact ⟨gw, rfl, hcw, hgw, hcell q hq⟩
theorem SRow.at {w : World} {a : Option Addr} {cap : Nat} {ls : List ByteArray} (h : SRow w (.slice a ls.length cap) ls) {q : Nat} (hq : q < ls.length) :
    ∃ gw, a = some ⟨gw, 0, none⟩ ∧ ls.length ≤ cap ∧ gw < w.heap.size ∧ w.cell? ⟨gw, q, none⟩ = some (.string ls[q]) := by
  rcases h with ⟨_, rfl⟩ | ⟨gw, cw, hv, hcw, hgw, hcell⟩
  · simp at hq
  · cases hv
    exact ⟨gw, rfl, hcw, hgw, hcell q hq⟩

set_option maxHeartbeats 1000000 in
set_option maxRecDepth 100000 in
theorem Right_any {vS vW : Value} {ls : List ByteArray} {ws : List (Int × ByteArray)} {w : World} (hS : SRow w vS ls) (hW : WRow w vW ws) (hr : smallP ls ws) : Calls Try.prog 15 #[.agg #[vS, vW]] w (BoolB (rightB ls ws) w) := by
  obtain ⟨h1, h2, h4, h5⟩ := hr
  obtain ⟨aS, cap, rfl⟩ := hS.slice
  obtain ⟨aW, capW, rfl⟩ := hW.slice
  have HC := Lib.hid hS
  have HW := Lib.hid hW
  have H4 := Lib.hid h4
  have H5 := Lib.hid h5
  clear hS hW h4 h5
  by_cases hm : mayB ls.length = true
  case neg =>
    have hm' : mayB ls.length = false := by simpa using hm
    have HN := Lib.hid (rightB_f.2 fun h => hm (mayB_t.2 ⟨by have := h.1; omega, by have := h.2.1; omega⟩) : rightB ls ws = false)
    go_enter Try.func15, Try.ntmps15
    go_wp2_with (go_at_call 19; refine (mayHave_any _ _).mono ?_; rintro e w' ⟨rfl, rfl⟩; rw [hm'])
    go_ret
    exact ⟨ret_bool HN.out.symm, (Below.refl _ _).alloc (Nat.le_refl _) _⟩
  by_cases hw64 : ws.length ≤ 64
  case neg =>
    have HN := Lib.hid (rightB_f.2 fun h => hw64 h.2.2.1 : rightB ls ws = false)
    go_enter Try.func15, Try.ntmps15
    go_wp2_with (go_at_call 19; refine (mayHave_any _ _).mono ?_; rintro e w' ⟨rfl, rfl⟩; rw [hm])
    go_ret
    exact ⟨ret_bool HN.out.symm, (Below.refl _ _).alloc (Nat.le_refl _) _⟩
  have hm1 := mayB_t.1 hm
  go_enter Try.func15, Try.ntmps15
  go_wp2_with (go_at_call 19; refine (mayHave_any _ _).mono ?_; rintro e w' ⟨rfl, rfl⟩; rw [hm])
  have hbx := Box2.made w (.slice aS ls.length cap) (.slice aW ws.length capW) 25
  have hbe : Below w.heap.size w (w.alloc (.cells #[.slice aS ls.length cap, .slice aW ws.length capW] 25)) := (Below.refl _ _).alloc (Nat.le_refl _) _
  generalize (w.alloc (.cells #[.slice aS ls.length cap, .slice aW ws.length capW] 25)) = x at hbx hbe ⊢
  have HCX := Lib.hid (HC.out.below hbe)
  have HBX := Lib.hid hbx
  have HBE := Lib.hid hbe
  clear hbx hbe
  go_loop [21] (fun i => ∃ k : Nat, k ≤ ls.length ∧ i = .int .i64 k ∧ Secs ls k) (fun i => ls.length - (intOf i).toNat)
  case atStart => exact ⟨0, Nat.zero_le _, rfl, fun j _ h => by omega⟩
  case round =>
    obtain ⟨k, hk, rfl, hsec⟩ := hrel
    have HSE := Lib.hid hsec
    clear hsec
    by_cases hlt : k < ls.length
    · obtain ⟨g, rfl, hc, hg, hce⟩ := HCX.out.at hlt
      have hsz := H4.out k hlt
      have HX := Lib.hid (secs_succ HSE.out hlt)
      have HY := Lib.hid (right_sec (ws := ws) hlt)
      generalize ls[k] = y at hce hsz HX HY
      by_cases h64 : y.size = 64
      · go_wp2
        go_round
        case rel => exact ⟨k + 1, by omega, by go_num, HX.out h64⟩
        case measure => simp [intOf]; omega
      · go_wp2
        go_ret
        exact ⟨ret_bool (HY.out h64), HBE.out⟩
    · obtain ⟨b0, b1, b2, b3, b4⟩ := HBX.out
      have HSA : Hid (∀ j (h : j < ls.length), ls[j].size = 64) := fun j h => HSE.out j h (by omega)
      clear HCX HSE
      go_wp2
      go_loopw [32] (fun i wr => Rounds w ws.length (.slice aS ls.length cap) (.slice aW ws.length capW) (Wrts ls.length ws) i wr) (fun i _ => ws.length - (intOf i).toNat)
      case atStart => exact ⟨0, Nat.zero_le _, rfl, fun j _ h => by omega, HBX.out, HBE.out⟩
      case round =>
        obtain ⟨q, hq, rfl, hwr, hbx, hbe⟩ := hrel
        have HB := Lib.hid hbe
        have HBX := Lib.hid hbx
        have HWR := Lib.hid hwr
        obtain ⟨b0, b1, b2, b3, b4⟩ := hbx
        clear hwr
        by_cases hlt : q < ws.length
        · obtain ⟨gw, rfl, hcw, hgw, c1, c2⟩ := (HW.out.below hbe).at hlt
          have h5 := H5.out q hlt
          have HX := Lib.hid (wrts_succ HWR.out hlt)
          have HY := Lib.hid (right_wrt (ls := ls) hlt)
          clear hbe
          generalize ws[q] = y at c1 c2 h5 HX HY
          obtain ⟨ya, yd⟩ := y
          dsimp only at c1 c2 h5 HX HY
          by_cases hh : hasB ls.length ya = true
          · have hh' := hasB_t.1 hh
            by_cases h64 : yd.size = 64
            · go_wp2_with (go_at_call 21; refine (has_any _ _ _ _ _ _).mono ?_; rintro e w' ⟨rfl, hb'⟩; rw [hh]; have HRS := Lib.hid (round_step HBX.out HB.out hb'); obtain ⟨m0, m1, m2, m3, m4⟩ := HRS.out.1; clear hb')
              go_roundw
              case rel => exact ⟨q + 1, by omega, by go_num, HX.out ⟨hh'.1, hh'.2, h64⟩, HRS.out.2⟩
              case measure => simp [intOf]; omega
            · go_wp2_with (go_at_call 21; refine (has_any _ _ _ _ _ _).mono ?_; rintro e w' ⟨rfl, hb'⟩; rw [hh]; have HRS := Lib.hid (round_step HBX.out HB.out hb'); obtain ⟨m0, m1, m2, m3, m4⟩ := HRS.out.1; clear hb')
              go_ret
              exact ⟨ret_bool (HY.out fun h => h64 h.2.2), HRS.out.2.2⟩
          · go_wp2_with (go_at_call 21; refine (has_any _ _ _ _ _ _).mono ?_; rintro e w' ⟨rfl, hb'⟩; rw [Bool.eq_false_iff.2 hh]; have HRS := Lib.hid (round_step HBX.out HB.out hb'); obtain ⟨m0, m1, m2, m3, m4⟩ := HRS.out.1; clear hb')
            go_ret
            exact ⟨ret_bool (HY.out fun h => hh (hasB_t.2 ⟨h.1, h.2.1⟩)), HRS.out.2.2⟩
        · have HT := Lib.hid (rightB_t.2 ⟨by omega, by omega, hw64, HSA.out, fun j h => HWR.out j h (by omega)⟩ : rightB ls ws = true)
          clear hbe
          go_wp2
          go_ret
          exact ⟨ret_bool HT.out.symm, HB.out⟩

set_option maxHeartbeats 1000000 in
set_option maxRecDepth 100000 in
theorem refRight_any {vS vW : Value} {ls : List ByteArray} {ws : List (Int × ByteArray)} {w : World} (hS : SRow w vS ls) (hW : WRow w vW ws) (hr : smallP ls ws) : Calls Try.prog 14 #[.agg #[vS, vW]] w (BoolB (rightB ls ws) w) := by
  obtain ⟨h1, h2, h4, h5⟩ := hr
  obtain ⟨aS, cap, rfl⟩ := hS.slice
  obtain ⟨aW, capW, rfl⟩ := hW.slice
  have HC := Lib.hid hS
  have HW := Lib.hid hW
  have H4 := Lib.hid h4
  have H5 := Lib.hid h5
  clear hS hW h4 h5
  go_enter Try.func14, Try.ntmps14
  go_wp2
  have hbx := Box2.made w (.slice aS ls.length cap) (.slice aW ws.length capW) 25
  have hbe : Below w.heap.size w (w.alloc (.cells #[.slice aS ls.length cap, .slice aW ws.length capW] 25)) := (Below.refl _ _).alloc (Nat.le_refl _) _
  generalize (w.alloc (.cells #[.slice aS ls.length cap, .slice aW ws.length capW] 25)) = x at hbx hbe ⊢
  have HCX := Lib.hid (HC.out.below hbe)
  have HBX := Lib.hid hbx
  have HBE := Lib.hid hbe
  clear hbx hbe
  go_loop [10] (fun i => ∃ k : Nat, k ≤ ls.length ∧ i = .int .i64 k ∧ Secs ls k) (fun i => ls.length - (intOf i).toNat)
  case atStart => exact ⟨0, Nat.zero_le _, rfl, fun j _ h => by omega⟩
  case round =>
    obtain ⟨k, hk, rfl, hsec⟩ := hrel
    have HSE := Lib.hid hsec
    clear hsec
    by_cases hlt : k < ls.length
    · obtain ⟨g, rfl, hc, hg, hce⟩ := HCX.out.at hlt
      have hsz := H4.out k hlt
      have HX := Lib.hid (secs_succ HSE.out hlt)
      have HY := Lib.hid (right_sec (ws := ws) hlt)
      generalize ls[k] = y at hce hsz HX HY
      by_cases h64 : y.size = 64
      · go_wp2
        go_round
        case rel => exact ⟨k + 1, by omega, by go_num, HX.out h64⟩
        case measure => simp [intOf]; omega
      · go_wp2
        go_ret
        exact ⟨ret_bool (HY.out h64), HBE.out⟩
    · obtain ⟨b0, b1, b2, b3, b4⟩ := HBX.out
      have HSA : Hid (∀ j (h : j < ls.length), ls[j].size = 64) := fun j h => HSE.out j h (by omega)
      clear HCX HSE
      go_wp2
      go_loopw [21] (fun i wr => Rounds w ws.length (.slice aS ls.length cap) (.slice aW ws.length capW) (Wrts ls.length ws) i wr) (fun i _ => ws.length - (intOf i).toNat)
      case atStart => exact ⟨0, Nat.zero_le _, rfl, fun j _ h => by omega, HBX.out, HBE.out⟩
      case round =>
        obtain ⟨q, hq, rfl, hwr, hbx, hbe⟩ := hrel
        have HB := Lib.hid hbe
        have HBX := Lib.hid hbx
        have HWR := Lib.hid hwr
        obtain ⟨b0, b1, b2, b3, b4⟩ := hbx
        clear hwr
        by_cases hlt : q < ws.length
        · obtain ⟨gw, rfl, hcw, hgw, c1, c2⟩ := (HW.out.below hbe).at hlt
          have h5 := H5.out q hlt
          have HX := Lib.hid (wrts_succ HWR.out hlt)
          have HY := Lib.hid (right_wrt (ls := ls) hlt)
          clear hbe
          generalize ws[q] = y at c1 c2 h5 HX HY
          obtain ⟨ya, yd⟩ := y
          dsimp only at c1 c2 h5 HX HY
          have HRS := Lib.hid (round_step (c0 := .int .i64 ya) (c1 := .string yd) (T := 43) HBX.out HB.out (Below.refl _ _)).2
          by_cases hh : 0 ≤ ya
          · by_cases hh' : ya < ls.length
            · by_cases h64 : yd.size = 64
              · go_wp2
                go_roundw
                case rel => exact ⟨q + 1, by omega, by go_num, HX.out ⟨hh, hh', h64⟩, HRS.out⟩
                case measure => simp [intOf]; omega
              · have HZ := Lib.hid h64
                have hne : ((yd.size : Int) != 64) = true := by simp; omega
                go_wp2
                go_ret
                exact ⟨ret_bool (HY.out fun h => HZ.out h.2.2), HRS.out.2⟩
            · go_wp2
              go_ret
              exact ⟨ret_bool (HY.out fun h => by omega), HRS.out.2⟩
          · go_wp2
            go_ret
            exact ⟨ret_bool (HY.out fun h => by omega), HRS.out.2⟩
        · clear hbe
          have HT : Hid (1 ≤ ls.length → ls.length ≤ 512 → ws.length ≤ 64 → rightB ls ws = true) := fun a b c => rightB_t.2 ⟨a, b, c, HSA.out, fun j h => HWR.out j h (by omega)⟩
          by_cases c1 : 0 < ls.length
          · by_cases c2 : ls.length ≤ 512
            · by_cases c3 : ws.length ≤ 64
              · go_wp2
                go_ret
                exact ⟨ret_bool (by rw [HT.out c1 c2 c3]; simp; omega), HB.out⟩
              · go_wp2
                go_ret
                exact ⟨ret_bool (by rw [rightB_f.2 fun h => by have := h.2.2.1; omega]; simp; omega), HB.out⟩
            · go_wp2
              go_ret
              exact ⟨ret_bool (rightB_f.2 fun h => by have := h.2.1; omega).symm, HB.out⟩
          · go_wp2
            go_ret
            exact ⟨ret_bool (rightB_f.2 fun h => by have := h.1; omega).symm, HB.out⟩
end Go.Proofs.Ythoeidgekogfiaa.Disk
