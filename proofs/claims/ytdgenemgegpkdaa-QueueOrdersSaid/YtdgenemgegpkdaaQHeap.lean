/-
  The library's heap over a row of waits behind its address: Push, Pop, Init.
-/
import Derived.Test.YtdgenemgegpkdaaQDown
import Derived.Test.YtdgenemgegpkdaaQPush
namespace Go.Proofs.Ytdgenemgegpkdaa.Queue
open Go.ChangeShapes Go.WideShapes Go.ChangeAt Go.RowKit Go.Shelf Go.Sort

/-- Behind heap.Push. -/
def HPushE (B hb : Nat) (d : Array Wt) (w : World) (e : Ending) (w' : World) : Prop := e = .returned (.tuple #[]) ∧ ∃ v', HS B hb v' d.toList w' ∧ Below B w w'
set_option maxHeartbeats 2000000 in
set_option maxRecDepth 100000 in
theorem HPush_any {B hb : Nat} {v : Value} {l : List Wt} {w : World} (h : HS B hb v l w) (hl : l.length ≤ 100) (x : Wt) :
    Calls Try.prog 29 #[.iface 42 (.pointer (some ⟨hb, 0, none⟩)), .iface 24 (wv x)] w (HPushE B hb (up l.length (l ++ [x]).toArray) w) := by
  have eP := ent_Push
  have eN := ent_Len
  have mP := find_Push (.pointer (some ⟨hb, 0, none⟩))
  have HPM := Lib.hid (PushM_any h (by omega) x)
  clear h
  unfold wv at HPM ⊢
  go_enter Try.func29, Try.ntmps29
  have i1 : 0 ≤ (l.length : Int) := by omega
  go_wp2_with (first
    | (go_at_fn 75; (with_reducible refine HPM.out.mono ?_); rintro e w1 ⟨rfl, v', h1, b1⟩; have H1 := Lib.hid h1; have HB1 := Lib.hid b1; have mN := find_Len hb v' w1 h1.cell.1; have HLN := Lib.hid (LenH h1); rw [List.length_append, List.length_singleton] at HLN; have HUP := Lib.hid (up_any h1 (j0 := l.length) (by simp) (by simp; omega)); clear h1 b1)
    | (go_at_fn 71; (with_reducible refine HLN.out.mono ?_); rintro e w' ⟨rfl, rfl⟩)
    | (go_at_call 37; (with_reducible refine HUP.out.mono ?_); rintro e w2 ⟨rfl, h2, b2⟩; have H2 := Lib.hid h2; have HB2 := Lib.hid (HB1.out.trans b2); clear h2 b2))
  go_end0
  exact ⟨rfl, _, H2.out, HB2.out⟩

/-- Behind heap.Pop. -/
def HPopE (B hb : Nat) (l : List Wt) (w : World) (e : Ending) (w' : World) : Prop := e = .returned (.iface 24 (wv (down (l.length - 1) 0 (swp l.toArray 0 (l.length - 1)))[l.length - 1]!)) ∧ ∃ v', HS B hb v' (down (l.length - 1) 0 (swp l.toArray 0 (l.length - 1))).toList.dropLast w' ∧ Below B w w'
set_option maxHeartbeats 2000000 in
set_option maxRecDepth 100000 in
theorem HPop_any {B hb : Nat} {v : Value} {l : List Wt} {w : World} (h : HS B hb v l w) (h0 : 0 < l.length) (hl : l.length ≤ 100) :
    Calls Try.prog 30 #[.iface 42 (.pointer (some ⟨hb, 0, none⟩))] w (HPopE B hb l w) := by
  have eN := ent_Len
  have eS := ent_Swap
  have eP := ent_Pop
  have mN := find_Len hb v w h.cell.1
  have mS := find_Swap hb v w h.cell.1
  have mP := find_Pop (.pointer (some ⟨hb, 0, none⟩))
  have HLN := Lib.hid (LenH h)
  obtain ⟨m, hm⟩ : ∃ m, l.length - 1 = m := ⟨_, rfl⟩
  have hmi : (l.length : Int) - 1 = (m : Int) := by omega
  have hSW : Calls Try.prog 73 #[v, .int .i64 ((0 : Nat) : Int), .int .i64 m] w fun e w' => e = .returned (.tuple #[]) ∧ HS B hb v (lsw l 0 m) w' ∧ Below B w w' := SwapH h (i := 0) (j := m) h0 (by omega)
  have HSW : Hid (Calls Try.prog 73 #[v, .int .i64 0, .int .i64 m] w fun e w' => e = .returned (.tuple #[]) ∧ HS B hb v (lsw l 0 m) w' ∧ Below B w w') := hSW
  have hd : (down m 0 (swp l.toArray 0 m)).size = l.length := by rw [down_size, size_swp]; simp
  have HD := Lib.hid hd
  have HLS := Lib.hid (lsw_swp l 0 m)
  unfold HPopE
  rw [hm]
  have HM := Lib.hid hm
  have i1 : 1 ≤ (l.length : Int) := by omega
  clear h hSW hd hm
  go_enter Try.func30, Try.ntmps30
  go_wp2_with (first
    | (go_at_fn 71; (with_reducible refine HLN.out.mono ?_); rintro e w' ⟨rfl, rfl⟩)
    | (go_at_fn 73; (with_reducible refine HSW.out.mono ?_); rintro e w1 ⟨rfl, h1, b1⟩; have HB1 := Lib.hid b1; have HDN : Hid (Calls Try.prog 33 #[.iface 42 (.pointer (some ⟨hb, 0, none⟩)), .int .i64 0, .int .i64 m] w1 (DnE B hb v (down m 0 (lsw l 0 m).toArray) w1)) := (down_any h1 (n := m) (i0 := 0) (by rw [lsw_len]; exact h0) (Nat.zero_le _) (by rw [lsw_len]; have := HM.out; omega) (by rw [lsw_len]; omega)); clear h1 b1)
    | (go_at_call 33; (with_reducible refine HDN.out.mono ?_); rintro e w2 ⟨⟨bb, rfl⟩, h2, b2⟩; have HB2 := Lib.hid (HB1.out.trans b2); have HPM := Lib.hid (PopM_any h2 (by rw [Array.length_toList, HLS.out, HD.out]; exact h0) (by rw [Array.length_toList, HLS.out, HD.out]; omega)); clear h2 b2)
    | (go_at_fn 74; (with_reducible refine HPM.out.mono ?_); rintro e w3 ⟨rfl, v', h3, b3⟩; have H3 := Lib.hid h3; have HB3 := Lib.hid (HB2.out.trans b3); clear h3 b3))
  have e1 : (down m 0 (lsw l 0 m).toArray).toList.length - 1 = m := by rw [Array.length_toList, HLS.out, HD.out]; exact HM.out
  go_ret
  rw [e1, HLS.out] at *
  exact ⟨by simp; rw [HD.out, HM.out], _, H3.out, HB3.out⟩
end Go.Proofs.Ytdgenemgegpkdaa.Queue
