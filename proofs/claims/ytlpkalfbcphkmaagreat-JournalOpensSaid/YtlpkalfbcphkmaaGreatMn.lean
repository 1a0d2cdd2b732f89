/-
  Joined: JFrames, JMayWait, JHalf, Whole.
-/
import Derived.Test.YtlpkalfbcphkmaaGreatMm
import Derived.Test.YtlpkalfbcphkmaaGreatMk
import Derived.Test.YtlpkalfbcphkmaaGreatMl
import Derived.RangeFuncNested
import Derived.RangeFuncBound
import Derived.RangeFuncCalls
import Derived.RangeFuncLeaves
import Derived.RangeFuncBox
import Derived.Shelf.Abstract
import Derived.Shelf.RegionOpen
import Derived.WalkKit
import Derived.OwnWalkIn
import Derived.TacticsInMore
import Derived.LoopNIn
import Derived.LoopIn

/-
  Contract of frames (package journal): records' bytes, one behind the other.
-/
namespace Go.Proofs.YtlpkalfbcphkmaaGreat.Disk.Jn
open Go.ChangeShapes Go.WideShapes Go.ChangeAt Go.RowKit Go.Lib
open Go.Proofs.YtlpkalfbcphkmaaGreat.Frame (frm frms frms_append frms_snoc frm_pos frm_len frm_le size_list mk_list mk_size Frame_yes)

theorem Tryz.WriteString (B b : Nat) (bs : List Value) (s : ByteArray) (w : World) (h : Lib.IsBuilder 126 5 B b bs w) (hlen : bs.length + s.size ≤ 140737488355328) (hBw : B ≤ w.heap.size) :
    Calls Tryz.prog 90 #[.pointer (some ⟨b, 0, none⟩), .string s] w fun e w' => e = .returned (.tuple #[.int .i64 s.size, .nilIface]) ∧ (Lib.BuilderAt 126 5 B b (.pointer (some ⟨b, 0, none⟩)) (bs ++ Lib.strCells s) w' ∧ Below B w w') :=
  Any.Builder_WriteString { Tryz.lays156 with } Tryz.Builder_Extra_156 B b bs s w h hlen hBw
theorem Tryz.BuilderString (B b : Nat) (l : List UInt8) (w : World) (h : Lib.IsBuilder 126 5 B b (Lib.byteCells l) w) (hBw : B ≤ w.heap.size) :
    Calls Tryz.prog 91 #[.pointer (some ⟨b, 0, none⟩)] w fun e w' => e = .returned (.string ⟨l.toArray⟩) ∧ Below B w w' :=
  Any.Builder_String_any { Tryz.lays156 with } Tryz.Builder_Extra_156 B b l w h hBw
theorem builder_below {B b : Nat} {bs : List Value} {W W' : World} (h : Lib.IsBuilder 126 5 B b bs W) (hb : Below W.heap.size W W') : Lib.IsBuilder 126 5 B b bs W' := by
  have one : ∀ {p}, Lib.BuilderAt 126 5 B b p bs W → Lib.BuilderAt 126 5 B b p bs W' := by
    rintro p ⟨h1, v, h2, h3, h4⟩
    refine ⟨h1, v, (hb.block b (Array.getElem?_eq_some_iff.1 h2).1).trans h2, ?_, h4⟩
    obtain ⟨k0, k1 | ⟨g, cap, cur, hv, hg, hh, hrest⟩⟩ := h3
    · exact ⟨k0, .inl k1⟩
    · exact ⟨k0, .inr ⟨g, cap, cur, hv, hg, (hb.block g (Array.getElem?_eq_some_iff.1 hh).1).trans hh, hrest⟩⟩
  exact h.elim (fun x => .inl (one x)) (fun x => .inr (one x))
theorem frms_le {l : List ByteArray} (h : ∀ d ∈ l, d.size ≤ 4096) : (frms l).length ≤ 4109 * l.length := by
  induction l with
  | nil => simp [frms]
  | cons d l ih =>
    have h1 := frm_le d (h d (by simp))
    have h2 := ih (fun x hx => h x (by simp [hx]))
    have h3 := h d (by simp)
    simp only [frms, List.length_append, List.length_cons]
    omega
theorem frms_take {l : List ByteArray} {k : Nat} (h : k < l.length) : frms (l.take (k + 1)) = frms (l.take k) ++ frm l[k] := by
  rw [List.take_succ_eq_append_getElem h, frms_snoc]

set_option maxHeartbeats 2000000 in
set_option maxRecDepth 100000 in
theorem frames_any {v : Value} {l : List ByteArray} {w : World} (hS : SRow w v l) (hl : l.length ≤ 1000) (h4 : ∀ d ∈ l, d.size ≤ 4096) : Calls Tryz.prog 72 #[v] w (TextB ⟨(frms l).toArray⟩ w) := by
  obtain ⟨a, cap, rfl⟩ := hS.slice
  have HS := Lib.hid hS
  have H4 := Lib.hid h4
  have HA := Lib.hid (Lib.fresh_isBuilder 126 5 w)
  clear hS h4
  go_enter Tryz.func72, Tryz.ntmps72
  go_wp2
  go_loopw [10] (fun i wr => ∃ k : Nat, k ≤ l.length ∧ i = .int .i64 k ∧ Lib.IsBuilder 126 5 w.heap.size w.heap.size (Lib.byteCells (frms (l.take k))) wr ∧ Below w.heap.size w wr) (fun i _ => l.length - (RowKit.intOf i).toNat)
  case atStart => exact ⟨0, Nat.zero_le _, rfl, HA.out, al _ _⟩
  case round =>
    obtain ⟨k, hk, rfl, hbd, hbe⟩ := hrel
    have HB := Lib.hid hbd
    have HE := Lib.hid hbe
    clear hbd hbe HA
    by_cases hlt : k < l.length
    · obtain ⟨g, rfl, hc, hg, hce⟩ := (HS.out.below HE.out).at hlt
      have hd := H4.out l[k] (List.getElem_mem hlt)
      have HF := Lib.hid (fun W => Frame_yes l[k] W hd)
      have hfl : (frms (l.take k)).length ≤ 4109 * 1000 := by
        have := frms_le (l := l.take k) (fun d hd => H4.out d (List.mem_of_mem_take hd))
        rw [List.length_take] at this
        omega
      have hfd := frm_le l[k] hd
      have HN : Hid (frms (l.take (k + 1)) = frms (l.take k) ++ frm l[k]) := frms_take hlt
      generalize hfn : frms (l.take (k + 1)) = fn at HN
      have HNN := Lib.hid hfn
      clear hfn
      generalize frms (l.take k) = fk at HB HN hfl
      generalize l[k] = d at hce hd HF hfd HN
      obtain ⟨f, hf⟩ : ∃ f : ByteArray, (⟨(frm d).toArray⟩ : ByteArray) = f := ⟨_, rfl⟩
      have hfs : f.size = (frm d).length := by rw [← hf, mk_size]
      have HFL : Hid (f.data.toList = frm d) := by unfold Hid; rw [← hf, mk_list]
      rw [hf] at HF
      have HFS := Lib.hid hfs
      clear hf hfs
      go_wp2_with fail
      refine (HF.out _).mono ?_
      rintro e x ⟨rfl, hx⟩
      have HX := Lib.hid (builder_below HB.out hx)
      have HEX := Lib.hid (below_trans HE.out hx)
      clear hx
      go_wp2_with fail
      refine (Tryz.WriteString _ _ _ _ _ HX.out (by rw [Lib.byteCells_length, HFS.out]; omega) HEX.out.size).mono ?_
      rintro e y ⟨rfl, hb, hbe⟩
      have HY : Hid (Lib.IsBuilder 126 5 w.heap.size w.heap.size (Lib.byteCells fn) y) := by
        unfold Hid
        rw [HN.out, Lib.byteCells_append, ← HFL.out]
        exact .inr hb
      have HEY := Lib.hid (HEX.out.trans hbe)
      clear hb hbe
      go_wp2_with fail
      go_roundw
      case rel => exact ⟨k + 1, by omega, by go_num, HNN.out ▸ HY.out, HEY.out⟩
      case measure => simp [RowKit.intOf]; omega
    · obtain rfl : k = l.length := by omega
      rw [List.take_length] at HB
      have HR := Lib.hid (Tryz.BuilderString _ _ _ _ HB.out HE.out.size)
      clear H4 HB
      go_wp2_with fail
      refine HR.out.mono ?_
      rintro e x ⟨rfl, hx⟩
      have HX := Lib.hid (HE.out.trans hx)
      clear hx
      go_wp2_with fail
      go_ret
      exact ⟨rfl, HX.out⟩
end Go.Proofs.YtlpkalfbcphkmaaGreat.Disk.Jn

/-
  Contract of mayWait (package journal): why records may not wait.
-/
namespace Go.Proofs.YtlpkalfbcphkmaaGreat.Disk.Jn
open Go.ChangeShapes Go.WideShapes Go.ChangeAt Go.RowKit Go.Lib
open Go.Proofs.YtlpkalfbcphkmaaGreat.Frame (frm frms frms_append frms_snoc frm_pos frm_len frm_le size_list mk_list mk_size Frame_yes)

/-- A journal's value. -/
def jv (vS vW : Value) (s h u : Int) (vG vR : Value) : Value := .agg #[vS, vW, .int .i64 s, .int .i64 h, .int .i64 u, vG, vR]
/-- Why records may not wait. -/
def waitE (n used : Nat) (g : List ByteArray) : Int :=
  if g.all (fun d => decide (d.size ≤ 1000)) = false then 3 else if 16 < g.length then 7 else if 3000 < (frms g).length then 7 else if roomN n < used + (frms g).length then 7 else 0
theorem wait_zero {n used : Nat} {g : List ByteArray} : waitE n used g = 0 ↔ (∀ d ∈ g, d.size ≤ 1000) ∧ g.length ≤ 16 ∧ (frms g).length ≤ 3000 ∧ used + (frms g).length ≤ roomN n := by
  unfold waitE
  by_cases h1 : g.all (fun d => decide (d.size ≤ 1000)) = false
  · rw [if_pos h1]
    constructor
    · intro h; cases h
    · rintro ⟨h, _⟩
      rw [List.all_eq_false] at h1
      obtain ⟨d, hd, hc⟩ := h1
      exact absurd (decide_eq_true (h d hd)) hc
  · rw [if_neg h1]
    have h2 : ∀ d ∈ g, d.size ≤ 1000 := by simpa using h1
    by_cases c2 : 16 < g.length
    · rw [if_pos c2]; constructor
      · intro h; cases h
      · rintro ⟨_, h, _⟩; omega
    rw [if_neg c2]
    by_cases c3 : 3000 < (frms g).length
    · rw [if_pos c3]; constructor
      · intro h; cases h
      · rintro ⟨_, _, h, _⟩; omega
    rw [if_neg c3]
    by_cases c4 : roomN n < used + (frms g).length
    · rw [if_pos c4]; constructor
      · intro h; cases h
      · rintro ⟨_, _, _, h⟩; omega
    rw [if_neg c4]
    exact ⟨fun _ => ⟨h2, by omega, by omega, by omega⟩, fun _ => rfl⟩

set_option maxHeartbeats 2000000 in
set_option maxRecDepth 100000 in
theorem mayWait_any {aS : Option Addr} {n cap : Nat} {vW vG vR v : Value} {s h : Int} {u : Nat} {g : List ByteArray} {w : World} (h8 : 8 ≤ n) (hn : n ≤ 1000) (hu : u ≤ 100000) (hS : SRow w v g) (hg : g.length ≤ 1000) (hz : ∀ d ∈ g, d.size ≤ 1000000) :
    Calls Tryz.prog 41 #[jv (.slice aS n cap) vW s h u vG vR, v] w (IntB (waitE n u g) w) := by
  obtain ⟨a, capG, rfl⟩ := hS.slice
  have HS := Lib.hid hS
  have HZ := Lib.hid hz
  have HA := Lib.hid (Box.made w [.slice aS n cap, vW, .int .i64 s, .int .i64 h, .int .i64 u, vG, vR] 27)
  obtain ⟨E, hE⟩ : ∃ E, waitE n u g = E := ⟨_, rfl⟩
  have HE := Lib.hid hE
  rw [hE]
  clear hS hz hE
  unfold jv
  go_enter Tryz.func41, Tryz.ntmps41
  go_wp2
  generalize hX : w.alloc (.cells #[.slice aS n cap, vW, .int .i64 s, .int .i64 h, .int .i64 u, vG, vR] 27) = X at HA ⊢
  have HBX : Hid (Below w.heap.size w X) := by unfold Hid; rw [← hX]; exact al _ _
  clear hX
  go_loop [10] (fun i => ∃ k : Nat, k ≤ g.length ∧ i = .int .i64 k ∧ Hid (∀ j (hj : j < g.length), j < k → g[j].size ≤ 1000)) (fun i => g.length - (RowKit.intOf i).toNat)
  case atStart => exact ⟨0, Nat.zero_le _, rfl, fun j _ h => by omega⟩
  case round =>
    obtain ⟨k, hk, rfl, HK⟩ := hrel
    by_cases hlt : k < g.length
    · obtain ⟨b, rfl, hc, hb, hce⟩ := (HS.out.below HBX.out).at hlt
      have hsz := HZ.out g[k] (List.getElem_mem hlt)
      have HNX : Hid (g[k].size ≤ 1000 → ∀ j (hj : j < g.length), j < k + 1 → g[j].size ≤ 1000) := fun h j hj hjk => by
        by_cases c : j = k
        · subst c; exact h
        · exact HK.out j hj (by omega)
      have HNO : Hid (1000 < g[k].size → E = 3) := fun h => by
        rw [← HE.out, waitE, if_pos]
        rw [List.all_eq_false]
        exact ⟨g[k], List.getElem_mem hlt, by simp; omega⟩
      generalize g[k] = d at hce hsz HNX HNO
      by_cases hd : d.size ≤ 1000
      · have HN := Lib.hid (HNX.out hd)
        go_wp2
        go_round
        case rel => exact ⟨k + 1, by omega, by go_num, HN⟩
        case measure => simp [RowKit.intOf]; omega
      · have HN := Lib.hid (HNO.out (by omega))
        go_wp2
        go_ret
        exact ⟨ret_int HN.out.symm, HBX.out⟩
    · have H1000 : Hid (∀ d ∈ g, d.size ≤ 1000) := fun d hd => by
        obtain ⟨j, hj, rfl⟩ := List.getElem_of_mem hd
        exact HK.out j hj (by omega)
      have HALL : Hid (¬ g.all (fun d => decide (d.size ≤ 1000)) = false) := by
        have := H1000.out
        unfold Hid
        simpa using this
      clear HK
      by_cases h16 : 16 < g.length
      · have HN : Hid (E = 7) := by unfold Hid; rw [← HE.out, waitE, if_neg HALL.out, if_pos h16]
        go_wp2
        go_ret
        exact ⟨ret_int HN.out.symm, HBX.out⟩
      have HF := Lib.hid (fun W (hW : Below w.heap.size w W) => frames_any (HS.out.below hW) hg (fun d hd => by have := H1000.out d hd; omega))
      have hfl := Lib.hid (frms_le (l := g) (fun d hd => by have := H1000.out d hd; omega))
      obtain ⟨f, hf⟩ : ∃ f : ByteArray, (⟨(frms g).toArray⟩ : ByteArray) = f := ⟨_, rfl⟩
      have hfs : f.size = (frms g).length := by rw [← hf, mk_size]
      have hfm : f.size ≤ 100000 := by have := hfl.out; omega
      rw [hf] at HF
      have HFS := Lib.hid hfs
      have HEE : Hid (E = if 3000 < f.size then 7 else if roomN n < u + f.size then 7 else 0) := by unfold Hid; rw [← HE.out, waitE, if_neg HALL.out, if_neg h16, HFS.out]
      clear hf hfs hfl HE HALL
      go_wp2_with fail
      refine (HF.out _ HBX.out).mono ?_
      rintro e Y ⟨rfl, hy⟩
      have HBY := Lib.hid (below_trans HBX.out hy)
      have HAY := Lib.hid (Box.below HA.out hy)
      clear hy HF
      have HRM := Lib.hid (fun W => room_any aS n cap vW W (by omega) hn)
      have hroom : roomN n ≤ 64000 := by unfold roomN hsN; omega
      generalize roomN n = R at HRM HEE hroom
      go_upto_region 10 with (fail)
      obtain ⟨c0, c1, c2, c3, c4, c5, c6⟩ := HAY.out.c7
      by_cases h3 : 3000 < f.size
      · have e3 : decide (3000 < f.size) = true := decide_eq_true h3
        have e3' : decide ((3000 : Int) < (f.size : Int)) = true := decide_eq_true (by omega)
        have HN : Hid (E = 7) := by unfold Hid; rw [HEE.out, if_pos h3]
        go_quiet (fail)
        go_wp2_with fail
        go_ret
        exact ⟨ret_int HN.out.symm, below_trans HBY.out (below_dn _ _)⟩
      have e3 : decide (3000 < f.size) = false := decide_eq_false h3
      have e3' : decide ((3000 : Int) < (f.size : Int)) = false := decide_eq_false (by omega)
      have HBD := Lib.hid ((Below.refl Y.heap.size Y).drew)
      have hwr : IntKind.i64.wrap ((u : Int) + (f.size : Int)) = (u : Int) + f.size := IntWalk.i64_in _ (by omega)
      have HSF := Lib.hid (fun W' (hb : Below Y.heap.size Y W') => (HAY.out.below hb).c7)
      have i0 : (0 : Int) ≤ (u : Int) + (f.size : Int) := by omega
      obtain ⟨q, hq⟩ : ∃ q : Nat, (u : Int) + (f.size : Int) = q ∧ q = u + f.size := ⟨u + f.size, by omega, rfl⟩
      rw [hq.1] at hwr
      have hwr2 : IntKind.i64.wrap ((u : Int) + (f.size : Int)) = (q : Int) := by rw [IntWalk.i64_in _ (by omega)]; exact hq.1
      have HN : Hid (E = if R < q then 7 else 0) := by unfold Hid; rw [HEE.out, if_neg h3, hq.2]
      clear hq hwr i0
      go_region_held3 (fun w' => w'.cell? ⟨w.heap.size, 0, none⟩ = some (.slice aS n cap) ∧ w'.cell? ⟨w.heap.size, 1, none⟩ = some vW ∧ w'.cell? ⟨w.heap.size, 2, none⟩ = some (.int .i64 s) ∧ w'.cell? ⟨w.heap.size, 3, none⟩ = some (.int .i64 h) ∧ w'.cell? ⟨w.heap.size, 4, none⟩ = some (.int .i64 (u : Int)) ∧ w'.cell? ⟨w.heap.size, 5, none⟩ = some vG ∧ w'.cell? ⟨w.heap.size, 6, none⟩ = some vR)
        (first | exact HSF.out _ HBD.out | exact HSF.out _ HBZ.out | fail)
        (first
          | (go_at_call 73; (with_reducible refine (HRM.out _).mono ?_); rintro e Z ⟨rfl, hz⟩; have HBZ := Lib.hid (below_trans HBD.out hz); clear hz)
          | fail)
      have HEND := Lib.hid (below_trans HBY.out HBZ.out)
      clear hwr2 c0 c1 c2 c3 c4 c5 c6 HSF
      by_cases hR : R < q
      · have HN7 : Hid (E = 7) := by unfold Hid; rw [HN.out, if_pos hR]
        go_wp2_with fail
        go_ret
        exact ⟨ret_int HN7.out.symm, HEND.out⟩
      · have HN0 : Hid (E = 0) := by unfold Hid; rw [HN.out, if_neg hR]
        go_wp2_with fail
        go_ret
        exact ⟨ret_int HN0.out.symm, HEND.out⟩
end Go.Proofs.YtlpkalfbcphkmaaGreat.Disk.Jn

/-
  Contract of halfOf (package journal): a half's bytes.
-/
namespace Go.Proofs.YtlpkalfbcphkmaaGreat.Disk.Jn
open Go.ChangeShapes Go.WideShapes Go.ChangeAt Go.RowKit Go.Lib

theorem join_none : ∀ l : List (List UInt8), Lib.join l [] = l.flatten
  | [] => rfl
  | [x] => by simp [Lib.join, List.intercalate]
  | x :: y :: r => by
    have := join_none (y :: r)
    simp only [Lib.join, List.intercalate, List.intersperse, List.flatten_cons, List.nil_append] at this ⊢
    rw [this]

set_option maxHeartbeats 2000000 in
set_option maxRecDepth 100000 in
theorem halfOf_any {vS vW : Value} {ls : List ByteArray} {w : World} (hS : SRow w vS ls) (h8 : 8 ≤ ls.length) (hn : ls.length ≤ 1000) (h64 : Secs64 ls) {half : Nat} (hh : half ≤ 1) :
    Calls Tryz.prog 33 #[.agg #[vS, vW], .int .i64 half] w (TextB ⟨(bytesOf ls half).toArray⟩ w) := by
  have hle := hs_le h8 hh
  have hb2 := begN_two ls.length half
  have hs1 : 1 ≤ hsN ls.length := by unfold hsN; omega
  obtain ⟨aS, cap, rfl⟩ := hS.slice
  have hat := hS.at (q := 0) (by omega)
  obtain ⟨g, rfl, hc, hg, hx0⟩ := hat
  clear hx0
  have hlen := bytesOf_len h64 h8 hh
  have hroom : roomN ls.length ≤ 64000 := by unfold roomN hsN; omega
  have HJ : Hid (∀ W, Below w.heap.size w W → Calls Tryz.prog 67 #[.slice (some ⟨g, begN ls.length half, none⟩) (hsN ls.length) (cap - begN ls.length half), .string ⟨#[]⟩] W (TextB ⟨(bytesOf ls half).toArray⟩ W)) := fun W hW => by
    have hSW := hS.below hW
    have hl : ((ls.drop (begN ls.length half)).take (hsN ls.length)).length = hsN ls.length := by rw [List.length_take, List.length_drop]; omega
    have e : Lib.join (((ls.drop (begN ls.length half)).take (hsN ls.length)).map (·.data.toList)) (⟨#[]⟩ : ByteArray).data.toList = bytesOf ls half := by
      rw [show (⟨#[]⟩ : ByteArray).data.toList = [] from rfl, join_none, bytesOf, List.flatMap_def]
    have := Tryz.strings_Join g (begN ls.length half) (cap - begN ls.length half) ((ls.drop (begN ls.length half)).take (hsN ls.length)) ⟨#[]⟩ W (by
      intro j x hj
      rw [List.getElem?_take, List.getElem?_drop] at hj
      split at hj
      · obtain ⟨hlt, hx⟩ := List.getElem?_eq_some_iff.1 hj
        obtain ⟨g', eg, _, _, hce⟩ := hSW.at hlt
        cases eg
        rw [hce, hx]
      · cases hj) (Nat.lt_of_lt_of_le hg hW.size) (by omega) (by omega) (by rw [e, hlen]; omega)
    rw [hl, e] at this
    exact this
  have HB := Lib.hid (fun W => begin_any (some ⟨g, 0, none⟩) ls.length cap vW half W (by omega) hn hh)
  have HH := Lib.hid (fun W => halfSectors_any (some ⟨g, 0, none⟩) ls.length cap vW W (by omega) hn)
  have HA := Lib.hid (Box.made w [.slice (some ⟨g, 0, none⟩) ls.length cap, vW] 25)
  generalize (bytesOf ls half) = bl at HJ
  generalize begN ls.length half = at_ at *
  generalize hsN ls.length = hs at *
  clear hS h64 hlen hroom
  generalize ls.length = n at *
  go_enter Tryz.func33, Tryz.ntmps33
  go_wp2_with fail
  refine (HB.out _).mono ?_
  rintro e X ⟨rfl, hx⟩
  have HX := Lib.hid (Box.below HA.out hx)
  have HBX := Lib.hid (below_trans (al w _) hx)
  clear hx
  go_upto_region 2 with (fail)
  have HBD := Lib.hid ((Below.refl X.heap.size X).drew)
  obtain ⟨q, hq1, hq2⟩ : ∃ q : Nat, (at_ : Int) + hs = q ∧ q = at_ + hs := ⟨at_ + hs, by omega, rfl⟩
  have hwr : IntKind.i64.wrap ((at_ : Int) + (hs : Int)) = (q : Int) := by rw [IntWalk.i64_in _ (by omega)]; exact hq1
  have HQ : Hid (q - at_ = hs) := by unfold Hid; omega
  have hce : (cap = at_) = False := by
    apply eq_false
    omega
  have i1 : (0 : Int) ≤ (at_ : Int) := by omega
  have i2 : (at_ : Int) ≤ (q : Int) := by omega
  have i3 : (q : Int) ≤ (cap : Int) := by omega
  obtain ⟨b0, b1⟩ := HX.out.c2
  rw [← HQ.out] at HJ
  clear hq1 hq2
  go_region_held3 (fun w' => w'.cell? ⟨w.heap.size, 0, none⟩ = some (.slice (some ⟨g, 0, none⟩) n cap) ∧ w'.cell? ⟨w.heap.size, 1, none⟩ = some vW)
    (first | exact ⟨b0, b1⟩ | exact (HX.out.below HBY.out).c2 | exact (HX.out.below HBZ.out).c2 | fail)
    (first
      | (go_at_call 68; (with_reducible refine (HH.out _).mono ?_); rintro e Y ⟨rfl, hy⟩; have HBY := Lib.hid (below_trans HBD.out hy); clear hy)
      | (go_at_call 67; (with_reducible refine (HJ.out _ (below_trans HBX.out HBY.out)).mono ?_); rintro e Z ⟨rfl, hy⟩; have HBZ := Lib.hid (below_trans HBY.out hy); clear hy)
      | fail)
  go_wp2_with fail
  go_ret
  exact ⟨rfl, below_trans HBX.out HBZ.out⟩
end Go.Proofs.YtlpkalfbcphkmaaGreat.Disk.Jn

/-
  Contract of whole (package frame): records handed on one by one, each with the place where its bytes end.
-/
namespace Go.Proofs.YtlpkalfbcphkmaaGreat.Frame
open Go.ChangeShapes Go.WideShapes Go.ChangeAt Go.RowKit Go.Lib Go.Shelf
open Go.Proofs.YtlpkalfbcphkmaaGreat.Crc (four crcOn crcOn_lt U32B TextB Of_eq Bytes_any)
attribute [local go_sem] Oper.semAt_some

/-- A record, with the place where its bytes end. -/
abbrev PR := ByteArray × Int
/-- What yield is handed. -/
def encPR (x : PR) : Array Value := #[.string x.1, .int .i64 x.2]

theorem grown_of_below {W W' : World} (h : Below W.heap.size W W') : W.grownBy W' none := ⟨h.os, h.tape, h.output, h.size, fun k hk _ => h.block k hk⟩

/-- What has come, and what is left. -/
inductive Part (m : Nat) (s : ByteArray) : List PR → ByteArray → Prop
  | none : Part m s [] s
  | more (pre : List PR) (r d r' : ByteArray) : Part m s pre r → Is r d r' → Part m s (pre ++ [(d, (m : Int) - r'.size)]) r'
theorem part_hands {m : Nat} {s : ByteArray} {pre : List PR} {r : ByteArray} (h : Part m s pre r) : ∀ {xs t}, Hands m r xs t → Hands m s (pre ++ xs) t := by
  induction h with
  | none => exact fun hx => hx
  | more pre r d r' _ hi ih =>
    intro xs t hx
    have := ih (.more _ _ _ _ _ hi hx)
    simpa using this
theorem hands_det {m : Nat} {s : ByteArray} {xs : List PR} {t : ByteArray} (h : Hands m s xs t) : ∀ {ys u}, Hands m s ys u → xs = ys ∧ t = u := by
  induction h with
  | done s hn =>
    intro ys u h'
    cases h' with
    | done => exact ⟨rfl, rfl⟩
    | more _ d r l _ hi => exact absurd hi (hn _ _)
  | more s d r xs t hi _ ih =>
    intro ys u h'
    cases h' with
    | done _ hn => exact absurd hi (hn _ _)
    | more _ d' r' l _ hi' hr' =>
      obtain ⟨rfl, rfl⟩ := is_det hi hi'
      obtain ⟨rfl, rfl⟩ := ih hr'
      exact ⟨rfl, rfl⟩
theorem hands_some (m : Nat) (n : Nat) : ∀ s : ByteArray, s.size ≤ n → ∃ l t, Hands m s l t := by
  induction n with
  | zero => exact fun s h => ⟨[], s, .done s (no_short (by omega))⟩
  | succ n ih =>
    intro s h
    rcases is_or s with ⟨d, r, hi⟩ | hn
    · obtain ⟨l, t, hl⟩ := ih r (by have := is_size hi; omega)
      exact ⟨_, t, .more _ _ _ _ _ hi hl⟩
    · exact ⟨[], s, .done s hn⟩
theorem part_size {m : Nat} {s : ByteArray} {pre : List PR} {r : ByteArray} (h : Part m s pre r) : r.size + 5 * pre.length ≤ s.size := by
  induction h with
  | none => simp
  | more pre r d r' _ hi ih => have := is_size hi; simp; omega

/-- What a round keeps: what lay below n₀, and block Bs. -/
def KeepB (Bs n₀ : Nat) (A B : World) : Prop := Below n₀ A B ∧ B.heap[Bs]? = A.heap[Bs]?
theorem KeepB.refl (Bs n₀ : Nat) (W : World) : KeepB Bs n₀ W W := ⟨Below.refl _ _, rfl⟩
theorem KeepB.trans {Bs n₀ : Nat} {A B C : World} (h : KeepB Bs n₀ A B) (k : KeepB Bs n₀ B C) : KeepB Bs n₀ A C := ⟨h.1.trans k.1, k.2.trans h.2⟩
theorem KeepB.cell {Bs n₀ : Nat} {A B : World} (h : KeepB Bs n₀ A B) : B.cell? ⟨Bs, 0, none⟩ = A.cell? ⟨Bs, 0, none⟩ := World.cell?_of_block h.2
theorem KeepB.of_below {Bs n₀ : Nat} {A B : World} (h : Below A.heap.size A B) (hB : Bs < A.heap.size) (hn : n₀ ≤ A.heap.size) : KeepB Bs n₀ A B := ⟨h.mono hn, h.block _ hB⟩
theorem KeepB.put {Bs n₀ : Nat} {w : World} (hB : Bs < w.heap.size) (hn : n₀ ≤ w.heap.size) (W : World) (l : Nat) (o o' : Obj) (hl : w.heap.size ≤ l) (h : W.heap[l]? = some o) (h1 : o.isCells = false) (h2 : o.isWalk = false) : KeepB Bs n₀ W (W.putObj l o') :=
  ⟨belowK_b hn W l o o' hl h h1 h2, World.putObj_heap_other (by omega)⟩

def textLen : Value → Nat
  | .string r => r.size
  | _ => 0

set_option maxRecDepth 100000 in
set_option maxHeartbeats 2000000 in
theorem whole1_in (n : Nat) (hn : 1 ≤ n) (l Bs n₀ : Nat) (s : ByteArray) (xs : List PR) (t : ByteArray) (hs : s.size ≤ maxLen) (hH : Hands s.size s xs t) (J Jx : List PR → World → Prop)
    (hJ : ∀ pre W W', J pre W → Below W.heap.size W W' → J pre W')
    (hY : ∀ pre x W, J pre W → pre.length < xs.length → YieldAt Fence.wide (n - 1) Tryz.prog l (encPR x) W fun e W' =>
      (e = .returned (.bool true) ∧ J (pre ++ [x]) W' ∧ KeepB Bs n₀ W W') ∨ (e = .returned (.bool false) ∧ Jx (pre ++ [x]) W'))
    (W : World) (hBs : W.cell? ⟨Bs, 0, none⟩ = some (.string s)) (hBz : n₀ ≤ W.heap.size) (hBl : Bs < W.heap.size) (h0 : J [] W) :
    CallsIn Fence.wide n Tryz.prog 103 #[.func (.yield l) #[] #[], .pointer (some ⟨Bs, 0, none⟩)] W fun e W' => (∃ v, e = .returned v) ∧
      ((∃ ys, ys = xs ∧ J ys W') ∨ (∃ pre, True ∧ Jx pre W')) := by
  refine callsIn_of_wp Tryz.func103 rfl trivial ?_ rfl
  simp only [Tryz.ntmps103, List.size_toArray, List.length_cons, List.length_nil, Nat.reduceAdd, Nat.reduceSub, Array.replicate_succ, Array.replicate_zero, List.push_toArray, List.append_toArray, List.nil_append, List.cons_append]
  gi_wp2
  gi_loopw [3] (fun i wr => ∃ pre r, i = .string r ∧ Part s.size s pre r ∧ J pre wr ∧ KeepB Bs n₀ W wr)
    (fun i _ => textLen i)
  case atStart => exact ⟨[], s, rfl, .none, h0, KeepB.refl _ _ _⟩
  case round =>
    obtain ⟨pre, r, rfl, hp, hJs, hnx⟩ := hrel
    have hps := part_size hp
    have HS := Lib.hid hs
    rcases is_or r with ⟨d, r', hi⟩ | hno
    · have his := is_size hi
      have hm : s.size ≤ 9223372036854775807 := hs
      have HF := Lib.hid (first_is hi (by unfold maxLen; omega) wr)
      have HP := Lib.hid (Part.more pre r d r' hp hi)
      have HR := Lib.hid (hands_det hH (part_hands HP.out (hands_some s.size _ r' (Nat.le_refl _)).choose_spec.choose_spec)).1
      clear hs hp hi hH
      gi_wp2_with fail
      refine ⟨trivial, (callsIn_wide.2 HF.out).mono ?_⟩
      rintro e x ⟨rfl, hx⟩
      have hJx := hJ _ _ _ hJs hx
      have hnx' := hnx.trans (.of_below hx (Nat.lt_of_lt_of_le hBl hnx.1.size) (Nat.le_trans hBz hnx.1.size))
      have hcell := hnx'.cell.trans hBs
      clear hx hJs hnx
      obtain ⟨fn, tmps, assign, body, hy, hR⟩ := hY pre (d, (s.size : Int) - r'.size) x hJx (by rw [HR.out]; simp)
      unfold encPR at hy
      dsimp only at hy
      have HN := Lib.hid hnx'
      clear hnx'
      gi_wp2
      refine hR.mono ?_
      rintro e W3 (⟨rfl, hJ3, hk3⟩ | ⟨rfl, hJx3⟩)
      · gi_wp2
        go_roundw
        case rel => exact ⟨_, r', rfl, HP.out, hJ3, HN.out.trans hk3⟩
        case measure => simp [textLen]; omega
      · gi_wp2
        refine bodyPost_ret (results_none rfl _ _ _) rfl ?_
        exact ⟨⟨_, rfl⟩, .inr ⟨_, trivial, hJx3⟩⟩
    · have HF := Lib.hid (first_no hno (by omega) wr)
      have HR := Lib.hid (hands_det hH (part_hands hp (.done r hno))).1
      gi_wp2_with fail
      refine ⟨trivial, (callsIn_wide.2 HF.out).mono ?_⟩
      rintro e x ⟨rfl, hx⟩
      have hJx := hJ _ _ _ hJs hx
      gi_wp2_with fail
      refine ⟨fun _ h => (by cases h), ?_⟩
      gi_wp2_with fail
      refine bodyPost_ret (results_none rfl _ _ _) rfl ?_
      exact ⟨⟨_, rfl⟩, .inl ⟨pre, by rw [HR.out, List.append_nil], hJx⟩⟩

theorem whole_any (s : ByteArray) (w : World) : Calls Tryz.prog 88 #[.string s] w fun e w' => e = .returned (.func (.func 103) #[] #[.pointer (some ⟨w.heap.size, 0, none⟩)]) ∧ w' = w.alloc (.cells #[.string s] 9) := by
  go_enter Tryz.func88, Tryz.ntmps88
  go_wp2
  go_ret
  exact ⟨rfl, rfl⟩

/-- What whole hands back goes through the records from the first on. -/
theorem whole_stops (n : Nat) (hn : 1 ≤ n) (Bs n₀ : Nat) (s : ByteArray) (xs : List PR) (t : ByteArray) (hs : s.size ≤ maxLen) (hH : Hands s.size s xs t) (w : World) (hBn : Bs < w.heap.size) (hn₀ : n₀ ≤ w.heap.size) (hc : w.cell? ⟨Bs, 0, none⟩ = some (.string s)) :
    SeqStopsK Fence.wide n Tryz.prog 103 #[.pointer (some ⟨Bs, 0, none⟩)] encPR (KeepB Bs n₀) (fun ys => ys = xs) (fun _ => True) xs.length w := fun l J Jx W hW hJ _ hY h0 => by
  have hc' := (hW.cell (p := ⟨Bs, 0, none⟩) hBn).trans hc
  exact whole1_in n hn l Bs n₀ s xs t hs hH J Jx (fun pre A B h hb => hJ pre A B none h (grown_of_below hb) (fun r e => by cases e)) hY W hc' (Nat.le_trans hn₀ hW.size) (Nat.lt_of_lt_of_le hBn hW.size) h0
end Go.Proofs.YtlpkalfbcphkmaaGreat.Frame
