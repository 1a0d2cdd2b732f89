/-
  Joined: Shelf2, JFrames, JMayWait.
-/
import Derived.Shelf.Strings.Builder1
import Derived.Shelf.Strings.Builder2
import Derived.Shelf.Strings.OnBuilder
import Derived.Shelf.Strings.BuilderF
import Derived.Shelf.Strings.Prefix
import Derived.Shelf.Bits.Mul64
import Derived.Shelf.Strings.Repeat
import Derived.Shelf.Slices.Equal
import Derived.Shelf.Slices.Empties2
import Derived.Test.YtndakbjmahkjdaaProg
import Derived.Test.YtndakbjmahkjdaaMq
import Derived.Test.YtndakbjmahkjdaaMo

/-
  Contracts of the library's functions, laid at this program.
-/
namespace Go.Proofs.Ytndakbjmahkjdaa.Disk.Jn
open Go.Shelf
def Try.lays156_ren : Go.Shelf.Ren := ⟨fun | 156 => 49 | 165 => 60 | 166 => 61 | 169 => 63 | 240 => 74 | 241 => 75 | 276 => 82 | 277 => 83 | n => n, fun | 31 => 22 | 9 => 9 | 3 => 3 | 4 => 4 | 0 => 0 | 20 => 20 | 72 => 107 | 76 => 111 | 70 => 105 | 37 => 46 | 75 => 110 | 127 => 126 | 164 => 133 | 5 => 5 | 80 => 72 | n => n, fun | n => n⟩
theorem Try.lays156 : Go.Proofs.Lays.n156 Try.prog Try.lays156_ren := {
  mixed := by kernel_rfl
  f156 := Try.func49.trans (congrArg some (by kernel_rfl))
  f165 := Try.func60.trans (congrArg some (by kernel_rfl))
  f166 := Try.func61.trans (congrArg some (by kernel_rfl))
  f169 := Try.func63.trans (congrArg some (by kernel_rfl))
  f240 := Try.func74.trans (congrArg some (by kernel_rfl))
  f241 := Try.func75.trans (congrArg some (by kernel_rfl))
  f276 := Try.func82.trans (congrArg some (by kernel_rfl))
  f277 := Try.func83.trans (congrArg some (by kernel_rfl))
  t0 := Try.underlying0
  a0 := Try.isAgg0
  z0 := Try.sizeOf0
  v0 := Try.zeroValue0
  t3 := Try.underlying3
  a3 := Try.isAgg3
  z3 := Try.sizeOf3
  v3 := Try.zeroValue3
  t4 := Try.underlying4
  a4 := Try.isAgg4
  z4 := Try.sizeOf4
  v4 := Try.zeroValue4
  t9 := Try.underlying9
  a9 := Try.isAgg9
  z9 := Try.sizeOf9
  v9 := Try.zeroValue9
  t20 := Try.underlying20
  a20 := Try.isAgg20
  z20 := Try.sizeOf20
  v20 := Try.zeroValue20
  t31 := Try.underlying22
  a31 := Try.isAgg22
  z31 := Try.sizeOf22
  v31 := Try.zeroValue22
  t37 := Try.underlying46
  a37 := Try.isAgg46
  z37 := Try.sizeOf46
  v37 := Try.zeroValue46
  t70 := Try.underlying105
  a70 := Try.isAgg105
  z70 := Try.sizeOf105
  v70 := Try.zeroValue105
  t72 := Try.underlying107
  a72 := Try.isAgg107
  z72 := Try.sizeOf107
  v72 := Try.zeroValue107
  t75 := Try.underlying110
  a75 := Try.isAgg110
  z75 := Try.sizeOf110
  v75 := Try.zeroValue110
  t76 := Try.underlying111
  a76 := Try.isAgg111
  z76 := Try.sizeOf111
  v76 := Try.zeroValue111
  t127 := Try.underlying126
  a127 := Try.isAgg126
  z127 := Try.sizeOf126
  v127 := Try.zeroValue126
  t164 := Try.underlying133
  a164 := Try.isAgg133
  z164 := Try.sizeOf133
  v164 := Try.zeroValue133 }
theorem Try.Builder_Extra_156 : Builder.Extra Try.prog Try.lays156_ren := {
  sizeBuilder := by kernel_rfl
  liesBuilder := by kernel_rfl
  t5 := Try.underlying5
  a5 := Try.isAgg5
  z5 := Try.sizeOf5
  v5 := Try.zeroValue5
  infoByte := by kernel_rfl
  cellsByte := by kernel_rfl
  sizeByte := by kernel_rfl
  neB5 := by decide }
open Go.RowKit in
theorem Try.strings_Join (bk o c : Nat) (xs : List ByteArray) (sep : ByteArray) (w : World) (hcells : ∀ (j : Nat) x, xs[j]? = some x → w.cell? ⟨bk, o + j, none⟩ = some (.string x)) (hbk : bk < w.heap.size) (hN : xs.length ≤ 140737488355328) (hcap : xs.length ≤ c) (hlen : (Lib.join (xs.map (·.data.toList)) sep.data.toList).length ≤ 140737488355328) :
    Calls Try.prog 49 #[.slice (some ⟨bk, o, none⟩) xs.length c, .string sep] w fun e w' => e = .returned (.string ⟨(Lib.join (xs.map (·.data.toList)) sep.data.toList).toArray⟩) ∧ Below w.heap.size w w' := Any.strings_Join Try.lays156 Try.Builder_Extra_156 bk o c xs sep w hcells hbk hN hcap hlen
end Go.Proofs.Ytndakbjmahkjdaa.Disk.Jn

/-
  Contract of frames (package journal): records' bytes, one behind the other.
-/
namespace Go.Proofs.Ytndakbjmahkjdaa.Disk.Jn
open Go.ChangeShapes Go.WideShapes Go.ChangeAt Go.RowKit Go.Lib
open Go.Proofs.Ytndakbjmahkjdaa.Frame (frm frms frms_append frms_snoc frm_pos frm_len frm_le size_list mk_list mk_size Frame_yes)

theorem Try.WriteString (B b : Nat) (bs : List Value) (s : ByteArray) (w : World) (h : Lib.IsBuilder 107 5 B b bs w) (hlen : bs.length + s.size ≤ 140737488355328) (hBw : B ≤ w.heap.size) :
    Calls Try.prog 61 #[.pointer (some ⟨b, 0, none⟩), .string s] w fun e w' => e = .returned (.tuple #[.int .i64 s.size, .nilIface]) ∧ (Lib.BuilderAt 107 5 B b (.pointer (some ⟨b, 0, none⟩)) (bs ++ Lib.strCells s) w' ∧ Below B w w') :=
  Any.Builder_WriteString { Try.lays156 with } Try.Builder_Extra_156 B b bs s w h hlen hBw
theorem Try.BuilderString (B b : Nat) (l : List UInt8) (w : World) (h : Lib.IsBuilder 107 5 B b (Lib.byteCells l) w) (hBw : B ≤ w.heap.size) :
    Calls Try.prog 63 #[.pointer (some ⟨b, 0, none⟩)] w fun e w' => e = .returned (.string ⟨l.toArray⟩) ∧ Below B w w' :=
  Any.Builder_String_any { Try.lays156 with } Try.Builder_Extra_156 B b l w h hBw
theorem builder_below {B b : Nat} {bs : List Value} {W W' : World} (h : Lib.IsBuilder 107 5 B b bs W) (hb : Below W.heap.size W W') : Lib.IsBuilder 107 5 B b bs W' := by
  have one : ∀ {p}, Lib.BuilderAt 107 5 B b p bs W → Lib.BuilderAt 107 5 B b p bs W' := by
    rintro p ⟨h1, v, h2, h3, h4⟩
    refine ⟨h1, v, (hb.block b (Array.getElem?_eq_some_iff.1 h2).1).trans h2, ?_, h4⟩
    obtain ⟨k0, k1 | ⟨g, cap, cur, hv, hg, hh, hrest⟩⟩ := h3
    · exact ⟨k0, .inl k1⟩
    · exact ⟨k0, .inr ⟨g, cap, cur, hv, hg, (hb.block g (Array.getElem?_eq_some_iff.1 hh).1).trans hh, hrest⟩⟩
  exact h.elim (fun x => .inl (one x)) (fun x => .inr (one x))
theorem frms_le {l : List ByteArray} (h : ∀ d ∈ l, d.size ≤ 4096) : (frms l).length ≤ 4109 * l.length := by
  induction l with
  | nil => simp [frms]
  | cons d l ih =>
    have h1 := frm_le d (h d (by simp))
    have h2 := ih (fun x hx => h x (by simp [hx]))
    have h3 := h d (by simp)
    simp only [frms, List.length_append, List.length_cons]
    omega
theorem frms_take {l : List ByteArray} {k : Nat} (h : k < l.length) : frms (l.take (k + 1)) = frms (l.take k) ++ frm l[k] := by
  rw [List.take_succ_eq_append_getElem h, frms_snoc]

set_option maxHeartbeats 2000000 in
set_option maxRecDepth 100000 in
theorem frames_any {v : Value} {l : List ByteArray} {w : World} (hS : SRow w v l) (hl : l.length ≤ 1000) (h4 : ∀ d ∈ l, d.size ≤ 4096) : Calls Try.prog 51 #[v] w (TextB ⟨(frms l).toArray⟩ w) := by
  obtain ⟨a, cap, rfl⟩ := hS.slice
  have HS := Lib.hid hS
  have H4 := Lib.hid h4
  have HA := Lib.hid (Lib.fresh_isBuilder 107 5 w)
  clear hS h4
  go_enter Try.func51, Try.ntmps51
  go_wp2
  go_loopw [10] (fun i wr => ∃ k : Nat, k ≤ l.length ∧ i = .int .i64 k ∧ Lib.IsBuilder 107 5 w.heap.size w.heap.size (Lib.byteCells (frms (l.take k))) wr ∧ Below w.heap.size w wr) (fun i _ => l.length - (RowKit.intOf i).toNat)
  case atStart => exact ⟨0, Nat.zero_le _, rfl, HA.out, al _ _⟩
  case round =>
    obtain ⟨k, hk, rfl, hbd, hbe⟩ := hrel
    have HB := Lib.hid hbd
    have HE := Lib.hid hbe
    clear hbd hbe HA
    by_cases hlt : k < l.length
    · obtain ⟨g, rfl, hc, hg, hce⟩ := (HS.out.below HE.out).at hlt
      have hd := H4.out l[k] (List.getElem_mem hlt)
      have HF := Lib.hid (fun W => Frame_yes l[k] W hd)
      have hfl : (frms (l.take k)).length ≤ 4109 * 1000 := by
        have := frms_le (l := l.take k) (fun d hd => H4.out d (List.mem_of_mem_take hd))
        rw [List.length_take] at this
        omega
      have hfd := frm_le l[k] hd
      have HN : Hid (frms (l.take (k + 1)) = frms (l.take k) ++ frm l[k]) := frms_take hlt
      generalize hfn : frms (l.take (k + 1)) = fn at HN
      have HNN := Lib.hid hfn
      clear hfn
      generalize frms (l.take k) = fk at HB HN hfl
      generalize l[k] = d at hce hd HF hfd HN
      obtain ⟨f, hf⟩ : ∃ f : ByteArray, (⟨(frm d).toArray⟩ : ByteArray) = f := ⟨_, rfl⟩
      have hfs : f.size = (frm d).length := by rw [← hf, mk_size]
      have HFL : Hid (f.data.toList = frm d) := by unfold Hid; rw [← hf, mk_list]
      rw [hf] at HF
      have HFS := Lib.hid hfs
      clear hf hfs
      go_wp2_with fail
      refine (HF.out _).mono ?_
      rintro e x ⟨rfl, hx⟩
      have HX := Lib.hid (builder_below HB.out hx)
      have HEX := Lib.hid (below_trans HE.out hx)
      clear hx
      go_wp2_with fail
      refine (Try.WriteString _ _ _ _ _ HX.out (by rw [Lib.byteCells_length, HFS.out]; omega) HEX.out.size).mono ?_
      rintro e y ⟨rfl, hb, hbe⟩
      have HY : Hid (Lib.IsBuilder 107 5 w.heap.size w.heap.size (Lib.byteCells fn) y) := by
        unfold Hid
        rw [HN.out, Lib.byteCells_append, ← HFL.out]
        exact .inr hb
      have HEY := Lib.hid (HEX.out.trans hbe)
      clear hb hbe
      go_wp2_with fail
      go_roundw
      case rel => exact ⟨k + 1, by omega, by go_num, HNN.out ▸ HY.out, HEY.out⟩
      case measure => simp [RowKit.intOf]; omega
    · obtain rfl : k = l.length := by omega
      rw [List.take_length] at HB
      have HR := Lib.hid (Try.BuilderString _ _ _ _ HB.out HE.out.size)
      clear H4 HB
      go_wp2_with fail
      refine HR.out.mono ?_
      rintro e x ⟨rfl, hx⟩
      have HX := Lib.hid (HE.out.trans hx)
      clear hx
      go_wp2_with fail
      go_ret
      exact ⟨rfl, HX.out⟩
end Go.Proofs.Ytndakbjmahkjdaa.Disk.Jn

/-
  Contract of mayWait (package journal): why records may not wait.
-/
namespace Go.Proofs.Ytndakbjmahkjdaa.Disk.Jn
open Go.ChangeShapes Go.WideShapes Go.ChangeAt Go.RowKit Go.Lib
open Go.Proofs.Ytndakbjmahkjdaa.Frame (frm frms frms_append frms_snoc frm_pos frm_len frm_le size_list mk_list mk_size Frame_yes)

/-- A journal's value. -/
def jv (vS vW : Value) (s h u : Int) (vG vR : Value) : Value := .agg #[vS, vW, .int .i64 s, .int .i64 h, .int .i64 u, vG, vR]
/-- Why records may not wait. -/
def waitE (n used : Nat) (g : List ByteArray) : Int :=
  if g.all (fun d => decide (d.size ≤ 1000)) = false then 3 else if 16 < g.length then 7 else if 3000 < (frms g).length then 7 else if roomN n < used + (frms g).length then 7 else 0
theorem wait_zero {n used : Nat} {g : List ByteArray} : waitE n used g = 0 ↔ (∀ d ∈ g, d.size ≤ 1000) ∧ g.length ≤ 16 ∧ (frms g).length ≤ 3000 ∧ used + (frms g).length ≤ roomN n := by
  unfold waitE
  by_cases h1 : g.all (fun d => decide (d.size ≤ 1000)) = false
  · rw [if_pos h1]
    constructor
    · intro h; cases h
    · rintro ⟨h, _⟩
      rw [List.all_eq_false] at h1
      obtain ⟨d, hd, hc⟩ := h1
      exact absurd (decide_eq_true (h d hd)) hc
  · rw [if_neg h1]
    have h2 : ∀ d ∈ g, d.size ≤ 1000 := by simpa using h1
    by_cases c2 : 16 < g.length
    · rw [if_pos c2]; constructor
      · intro h; cases h
      · rintro ⟨_, h, _⟩; omega
    rw [if_neg c2]
    by_cases c3 : 3000 < (frms g).length
    · rw [if_pos c3]; constructor
      · intro h; cases h
      · rintro ⟨_, _, h, _⟩; omega
    rw [if_neg c3]
    by_cases c4 : roomN n < used + (frms g).length
    · rw [if_pos c4]; constructor
      · intro h; cases h
      · rintro ⟨_, _, _, h⟩; omega
    rw [if_neg c4]
    exact ⟨fun _ => ⟨h2, by omega, by omega, by omega⟩, fun _ => rfl⟩

set_option maxHeartbeats 2000000 in
set_option maxRecDepth 100000 in
theorem mayWait_any {aS : Option Addr} {n cap : Nat} {vW vG vR v : Value} {s h : Int} {u : Nat} {g : List ByteArray} {w : World} (h8 : 8 ≤ n) (hn : n ≤ 1000) (hu : u ≤ 100000) (hS : SRow w v g) (hg : g.length ≤ 1000) (hz : ∀ d ∈ g, d.size ≤ 1000000) :
    Calls Try.prog 28 #[jv (.slice aS n cap) vW s h u vG vR, v] w (IntB (waitE n u g) w) := by
  obtain ⟨a, capG, rfl⟩ := hS.slice
  have HS := Lib.hid hS
  have HZ := Lib.hid hz
  have HA := Lib.hid (Box.made w [.slice aS n cap, vW, .int .i64 s, .int .i64 h, .int .i64 u, vG, vR] 27)
  obtain ⟨E, hE⟩ : ∃ E, waitE n u g = E := ⟨_, rfl⟩
  have HE := Lib.hid hE
  rw [hE]
  clear hS hz hE
  unfold jv
  go_enter Try.func28, Try.ntmps28
  go_wp2
  generalize hX : w.alloc (.cells #[.slice aS n cap, vW, .int .i64 s, .int .i64 h, .int .i64 u, vG, vR] 27) = X at HA ⊢
  have HBX : Hid (Below w.heap.size w X) := by unfold Hid; rw [← hX]; exact al _ _
  clear hX
  go_loop [10] (fun i => ∃ k : Nat, k ≤ g.length ∧ i = .int .i64 k ∧ Hid (∀ j (hj : j < g.length), j < k → g[j].size ≤ 1000)) (fun i => g.length - (RowKit.intOf i).toNat)
  case atStart => exact ⟨0, Nat.zero_le _, rfl, fun j _ h => by omega⟩
  case round =>
    obtain ⟨k, hk, rfl, HK⟩ := hrel
    by_cases hlt : k < g.length
    · obtain ⟨b, rfl, hc, hb, hce⟩ := (HS.out.below HBX.out).at hlt
      have hsz := HZ.out g[k] (List.getElem_mem hlt)
      have HNX : Hid (g[k].size ≤ 1000 → ∀ j (hj : j < g.length), j < k + 1 → g[j].size ≤ 1000) := fun h j hj hjk => by
        by_cases c : j = k
        · subst c; exact h
        · exact HK.out j hj (by omega)
      have HNO : Hid (1000 < g[k].size → E = 3) := fun h => by
        rw [← HE.out, waitE, if_pos]
        rw [List.all_eq_false]
        exact ⟨g[k], List.getElem_mem hlt, by simp; omega⟩
      generalize g[k] = d at hce hsz HNX HNO
      by_cases hd : d.size ≤ 1000
      · have HN := Lib.hid (HNX.out hd)
        go_wp2
        go_round
        case rel => exact ⟨k + 1, by omega, by go_num, HN⟩
        case measure => simp [RowKit.intOf]; omega
      · have HN := Lib.hid (HNO.out (by omega))
        go_wp2
        go_ret
        exact ⟨ret_int HN.out.symm, HBX.out⟩
    · have H1000 : Hid (∀ d ∈ g, d.size ≤ 1000) := fun d hd => by
        obtain ⟨j, hj, rfl⟩ := List.getElem_of_mem hd
        exact HK.out j hj (by omega)
      have HALL : Hid (¬ g.all (fun d => decide (d.size ≤ 1000)) = false) := by
        have := H1000.out
        unfold Hid
        simpa using this
      clear HK
      by_cases h16 : 16 < g.length
      · have HN : Hid (E = 7) := by unfold Hid; rw [← HE.out, waitE, if_neg HALL.out, if_pos h16]
        go_wp2
        go_ret
        exact ⟨ret_int HN.out.symm, HBX.out⟩
      have HF := Lib.hid (fun W (hW : Below w.heap.size w W) => frames_any (HS.out.below hW) hg (fun d hd => by have := H1000.out d hd; omega))
      have hfl := Lib.hid (frms_le (l := g) (fun d hd => by have := H1000.out d hd; omega))
      obtain ⟨f, hf⟩ : ∃ f : ByteArray, (⟨(frms g).toArray⟩ : ByteArray) = f := ⟨_, rfl⟩
      have hfs : f.size = (frms g).length := by rw [← hf, mk_size]
      have hfm : f.size ≤ 100000 := by have := hfl.out; omega
      rw [hf] at HF
      have HFS := Lib.hid hfs
      have HEE : Hid (E = if 3000 < f.size then 7 else if roomN n < u + f.size then 7 else 0) := by unfold Hid; rw [← HE.out, waitE, if_neg HALL.out, if_neg h16, HFS.out]
      clear hf hfs hfl HE HALL
      go_wp2_with fail
      refine (HF.out _ HBX.out).mono ?_
      rintro e Y ⟨rfl, hy⟩
      have HBY := Lib.hid (below_trans HBX.out hy)
      have HAY := Lib.hid (Box.below HA.out hy)
      clear hy HF
      have HRM := Lib.hid (fun W => room_any aS n cap vW W (by omega) hn)
      have hroom : roomN n ≤ 64000 := by unfold roomN hsN; omega
      generalize roomN n = R at HRM HEE hroom
      go_upto_region 10 with (fail)
      obtain ⟨c0, c1, c2, c3, c4, c5, c6⟩ := HAY.out.c7
      by_cases h3 : 3000 < f.size
      · have e3 : decide (3000 < f.size) = true := decide_eq_true h3
        have e3' : decide ((3000 : Int) < (f.size : Int)) = true := decide_eq_true (by omega)
        have HN : Hid (E = 7) := by unfold Hid; rw [HEE.out, if_pos h3]
        go_quiet (fail)
        go_wp2_with fail
        go_ret
        exact ⟨ret_int HN.out.symm, below_trans HBY.out (below_dn _ _)⟩
      have e3 : decide (3000 < f.size) = false := decide_eq_false h3
      have e3' : decide ((3000 : Int) < (f.size : Int)) = false := decide_eq_false (by omega)
      have HBD := Lib.hid ((Below.refl Y.heap.size Y).drew)
      have hwr : IntKind.i64.wrap ((u : Int) + (f.size : Int)) = (u : Int) + f.size := IntWalk.i64_in _ (by omega)
      have HSF := Lib.hid (fun W' (hb : Below Y.heap.size Y W') => (HAY.out.below hb).c7)
      have i0 : (0 : Int) ≤ (u : Int) + (f.size : Int) := by omega
      obtain ⟨q, hq⟩ : ∃ q : Nat, (u : Int) + (f.size : Int) = q ∧ q = u + f.size := ⟨u + f.size, by omega, rfl⟩
      rw [hq.1] at hwr
      have hwr2 : IntKind.i64.wrap ((u : Int) + (f.size : Int)) = (q : Int) := by rw [IntWalk.i64_in _ (by omega)]; exact hq.1
      have HN : Hid (E = if R < q then 7 else 0) := by unfold Hid; rw [HEE.out, if_neg h3, hq.2]
      clear hq hwr i0
      go_region_held3 (fun w' => w'.cell? ⟨w.heap.size, 0, none⟩ = some (.slice aS n cap) ∧ w'.cell? ⟨w.heap.size, 1, none⟩ = some vW ∧ w'.cell? ⟨w.heap.size, 2, none⟩ = some (.int .i64 s) ∧ w'.cell? ⟨w.heap.size, 3, none⟩ = some (.int .i64 h) ∧ w'.cell? ⟨w.heap.size, 4, none⟩ = some (.int .i64 (u : Int)) ∧ w'.cell? ⟨w.heap.size, 5, none⟩ = some vG ∧ w'.cell? ⟨w.heap.size, 6, none⟩ = some vR)
        (first | exact HSF.out _ HBD.out | exact HSF.out _ HBZ.out | fail)
        (first
          | (go_at_call 52; (with_reducible refine (HRM.out _).mono ?_); rintro e Z ⟨rfl, hz⟩; have HBZ := Lib.hid (below_trans HBD.out hz); clear hz)
          | fail)
      have HEND := Lib.hid (below_trans HBY.out HBZ.out)
      clear hwr2 c0 c1 c2 c3 c4 c5 c6 HSF
      by_cases hR : R < q
      · have HN7 : Hid (E = 7) := by unfold Hid; rw [HN.out, if_pos hR]
        go_wp2_with fail
        go_ret
        exact ⟨ret_int HN7.out.symm, HEND.out⟩
      · have HN0 : Hid (E = 0) := by unfold Hid; rw [HN.out, if_neg hR]
        go_wp2_with fail
        go_ret
        exact ⟨ret_int HN0.out.symm, HEND.out⟩
end Go.Proofs.Ytndakbjmahkjdaa.Disk.Jn
