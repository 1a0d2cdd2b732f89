/-
  Joined: DiskNew, DiskTotal, JLay, JCrash.
-/
import Derived.Test.YtlpkalfbcphkmaaGreatMb
import Derived.Test.YtlpkalfbcphkmaaGreatMi
import Derived.Laws.CopyOwn
import Derived.Test.YtlpkalfbcphkmaaGreatMd
import Derived.Test.YtlpkalfbcphkmaaGreatMc

/-
  Contracts of slices.Repeat over one text, and of New (package disk): so many sectors of zeros.
-/
namespace Go.Proofs.YtlpkalfbcphkmaaGreat.Disk
open Go.ChangeShapes Go.WideShapes Go.ChangeAt Go.RowKit Go.Lib

theorem Mul_one (n : Nat) (hn : n ≤ 512) (w : World) : Calls Tryz.prog 93 #[.int .u64 1, .int .u64 n] w fun e w' => e = .returned (.tuple #[.int .u64 0, .int .u64 n]) ∧ w = w' := by
  have := Any.bits_Mul (P := Tryz.prog) (ρ := Tryz.lays105_ren) { Tryz.lays105 with } 1 n (by omega) (by omega) w
  rw [Nat.one_mul, Nat.div_eq_of_lt (by omega), Nat.mod_eq_of_lt (by omega)] at this
  exact this.mono fun e w' h => ⟨h.1, h.2.symm⟩

/-- Block g holds n cells, of which the first k are the text z. -/
def Filling (g n k : Nat) (z : ByteArray) (W : World) : Prop :=
  ∃ cur : List Value, W.heap[g]? = some (.cells cur.toArray 9 (0, 0)) ∧ cur.length = n ∧ cur.take k = List.replicate k (.string z)
theorem Filling.cell {g n k : Nat} {z : ByteArray} {W : World} (h : Filling g n k z W) {j : Nat} (hj : j < k) : W.cell? ⟨g, j, none⟩ = some (.string z) := by
  obtain ⟨cur, h1, h2, h3⟩ := h
  have e : cur[j]? = some (.string z) := by
    have := congrArg (fun l => l[j]?) h3
    simp only [List.getElem?_take, if_pos hj, List.getElem?_replicate] at this
    exact this
  simp [World.cell?, h1, e]
theorem Filling.row {g n : Nat} {z : ByteArray} {W : World} {B : Nat} (h : Filling g n n z W) (hB : B ≤ g) (hn : n ≤ 512) : OwnS B (.slice (some ⟨g, 0, none⟩) n n) (List.replicate n z) W := by
  obtain ⟨cur, h1, h2, h3⟩ := h
  refine ⟨by simp [scells], .inr ⟨g, n, cur.toArray, by simp, hB, h1, by simp, by unfold maxLen; omega, by simp [h2], ?_⟩⟩
  simp only [List.length_replicate, Nat.mul_one]
  rw [h3]
  simp [scells]
theorem take_splice {cur : List Value} {k m n : Nat} {x : Value} (hl : cur.length = n) (hk : cur.take k = List.replicate k x) (hm : k + m ≤ n) : (splice cur k (List.replicate m x)).length = n ∧ (splice cur k (List.replicate m x)).take (k + m) = List.replicate (k + m) x := by
  refine ⟨by rw [length_splice _ _ _ (by simp; omega), hl], ?_⟩
  unfold splice
  have e : (cur.take k ++ List.replicate m x).length = k + m := by simp; omega
  rw [← List.append_assoc, List.take_left' e, hk]
  simp

theorem copied {w0 W : World} {g n k m dLen dCap sLen sCap : Nat} {z : ByteArray} {a : Addr} {ty : TypeId} (h : Filling g n k z W) (hb : Below w0.heap.size w0 W) (hg : w0.heap.size ≤ g) (hm : m = Nat.min sLen dLen) (hkm : k + m ≤ n)
    (hsrc : ∀ j, j < m → W.cell? (a.add j) = some (.string z)) :
    ∃ W', (Builtin.copy_ #[22, 22] ty #[.slice (some ⟨g, k, none⟩) dLen dCap, .slice (some a) sLen sCap]).run Tryz.prog W = .ok (.int .i64 m) W' ∧ Filling g n (k + m) z W' ∧ Below w0.heap.size w0 W' := by
  obtain ⟨i0, hi, hz0, hz1, hz2⟩ := info_parts Tryz.infoS
  have hs1 : (Tryz.prog.info? 9).map (·.size) = some 1 := by rw [hi]; simp [hz1]
  obtain ⟨cur, h1, h2, h3⟩ := h
  have hr := run_copy_row (P := Tryz.prog) W 22 22 ty 9 g k dLen dCap a sLen sCap cur.toArray 9 (List.replicate m (.string z)) Tryz.underlying22 hs1 h1 (by simpa using hm)
    (fun j v hj => by
      obtain ⟨hj1, hj2⟩ := List.getElem?_eq_some_iff.1 hj
      simp at hj1 hj2
      rw [← hj2]; exact hsrc j hj1) (by simp; omega) (fun v hv => by rw [(List.mem_replicate.1 hv).2]; rfl)
  have e : (cur.toArray.toList.take k ++ List.replicate m (Value.string z) ++ cur.toArray.toList.drop (k + (List.replicate m (Value.string z)).length)).toArray = (splice cur k (List.replicate m (.string z))).toArray := by simp [splice]
  rw [e] at hr
  refine ⟨W.setRow g (splice cur k (List.replicate m (.string z))).toArray, by rw [hr]; simp [goInt], ⟨splice cur k (List.replicate m (.string z)), ?_, take_splice h2 h3 hkm⟩, below_setRow hb hg _⟩
  rw [setRow_heap W g _ _ 9 _ h1]

set_option maxHeartbeats 2000000 in
set_option maxRecDepth 100000 in
theorem RepeatS_any {g0 cap0 n : Nat} {z : ByteArray} {w : World} (h1 : 1 ≤ n) (hn : n ≤ 512) (hg : g0 < w.heap.size) (hc : w.cell? ⟨g0, 0, none⟩ = some (.string z)) : Calls Tryz.prog 75 #[.slice (some ⟨g0, 0, none⟩) 1 cap0, .int .i64 n] w (NewS (List.replicate n z) w) := by
  have HM := Lib.hid (fun W => Mul_one n hn W)
  obtain ⟨i0, hi, hz0, hz1, hz2⟩ := info_parts Tryz.infoS
  have hs1 : (Tryz.prog.info? 9).map (·.size) = some 1 := by rw [hi]; simp [hz1]
  obtain ⟨W0, hmk, hown, hgr⟩ := run_makeSlice_full (P := Tryz.prog) w w.heap.size 22 9 i0 (.string ⟨#[]⟩) 1 Tryz.underlying22 hi hz0 hz1 .i64 .i64 n (by omega) (by rw [hz2]; omega) (by unfold maxLen; omega) (Nat.le_refl _)
  have hb0 : Below w.heap.size w W0 := (Below.refl _ _).grown hgr (Nat.le_refl _) (fun k e => by cases e)
  obtain ⟨cur, hcur, hcl⟩ : ∃ cur : List Value, W0.heap[w.heap.size]? = some (.cells cur.toArray 9 (0, 0)) ∧ cur.length = n := by
    obtain ⟨_, ⟨e, _⟩ | ⟨g, cap, cur, e, _, hh, _, _, hsz, _⟩⟩ := hown
    · cases e
    · cases e
      exact ⟨cur.toList, by simpa using hh, by simpa using hsz⟩
  obtain ⟨W1, hcp, hF1, hB1⟩ := copied (ty := 3) (n := n) (k := 0) (m := 1) (z := z) (dLen := n) (dCap := n) (sLen := 1) (sCap := cap0) (a := ⟨g0, 0, none⟩) (w0 := w) ⟨cur, hcur, hcl, by simp⟩ hb0 (Nat.le_refl _) (by show 1 = min 1 n; omega) (by omega)
    (fun j hj => by obtain rfl : j = 0 := by omega
                    simpa [Addr.add] using (hb0.cell (p := ⟨g0, 0, none⟩) hg).trans hc)
  have HF1 := Lib.hid hF1
  have HB1 := Lib.hid hB1
  clear hown hgr hcur hc hb0 hF1 hB1 hcl
  go_enter Tryz.func75, Tryz.ntmps75
  go_wp2_with (go_at_call 93; refine (HM.out _).mono ?_; rintro e w' ⟨rfl, rfl⟩)
  go_loopw [8] (fun i wr => ∃ k : Nat, 1 ≤ k ∧ k ≤ n ∧ i = .int .i64 k ∧ Filling w.heap.size n k z wr ∧ Below w.heap.size w wr) (fun i _ => n - (RowKit.intOf i).toNat)
  case atStart => exact ⟨1, Nat.le_refl _, h1, rfl, HF1.out, HB1.out⟩
  case round =>
    obtain ⟨k, hk1, hkn, rfl, hF, hbe⟩ := hrel
    have HF := Lib.hid hF
    have HBE := Lib.hid hbe
    clear hmk hcp
    by_cases hlt : k < n
    · obtain ⟨W2, hcp, hF2, hB2⟩ := copied (ty := 3) (n := n) (k := k) (m := min k (n - k)) (z := z) (dLen := n - k) (dCap := n - k) (sLen := k) (sCap := n) (a := ⟨w.heap.size, 0, none⟩) (w0 := w) (W := wr.drew) hF hbe.drew (Nat.le_refl _) rfl (by omega)
        (fun j hj => by rw [addr_at]; exact hF.cell (by omega))
      have HF2 := Lib.hid hF2
      have HB2 := Lib.hid hB2
      clear hF hbe hF2 hB2
      have hmk1 : 1 ≤ min k (n - k) := by omega
      have hmk2 : k + min k (n - k) ≤ n := by omega
      generalize min k (n - k) = m at hcp HF2 hmk1 hmk2
      go_upto_region 9 with (fail)
      have hwr : IntKind.i64.wrap ((k : Int) + (m : Int)) = (k : Int) + m := IntWalk.i64_in _ (by omega)
      go_region_held3 (fun _ => True) (first | trivial | fail) (fail)
      clear hwr hcp
      go_wp2
      go_roundw
      case rel => exact ⟨k + m, by omega, by omega, by go_num, HF2.out, HB2.out⟩
      case measure => simp [RowKit.intOf]; omega
    · obtain rfl : k = n := by omega
      clear hF hbe
      go_wp2
      go_ret
      exact ⟨_, rfl, HF.out.row (Nat.le_refl _) hn, HBE.out⟩

/-- A sector of zeros. -/
def zeros : ByteArray := ⟨(Lib.repeatL [0] 64).toArray⟩
theorem zeros_size : zeros.size = 64 := by decide +kernel
theorem Repeat0_any (w : World) : Calls Tryz.prog 74 #[.string ⟨#[0]⟩, .int .i64 64] w (TextB zeros w) :=
  (Tryz.strings_Repeat ⟨#[0]⟩ 64 w (by omega) (by decide)).mono fun _ _ h => h

theorem Box2.ends {w : World} {uS uW : Value} {W : World} {l : List ByteArray} {m : List (Int × ByteArray)} (h : Box2 w.heap.size (.slice none 0 0) (.slice none 0 0) W) (hb : Below w.heap.size w W) (hS : SRow W uS l ∧ From (w.heap.size + 1) uS) (hW : WRow W uW m ∧ From (w.heap.size + 1) uW) :
    Box2 w.heap.size uS uW ((W.setCell ⟨w.heap.size, 0, none⟩ uS).setCell ⟨w.heap.size, 1, none⟩ uW) ∧
    (SRow ((W.setCell ⟨w.heap.size, 0, none⟩ uS).setCell ⟨w.heap.size, 1, none⟩ uW) uS l ∧ From w.heap.size uS) ∧ (WRow ((W.setCell ⟨w.heap.size, 0, none⟩ uS).setCell ⟨w.heap.size, 1, none⟩ uW) uW m ∧ From w.heap.size uW) ∧
    Below w.heap.size w ((W.setCell ⟨w.heap.size, 0, none⟩ uS).setCell ⟨w.heap.size, 1, none⟩ uW) :=
  ⟨h.set uS uW, ⟨(hS.1.stored hS.2).stored hS.2, hS.2.mono (by omega)⟩, ⟨(hW.1.stored hW.2).stored hW.2, hW.2.mono (by omega)⟩, (hb.setCell (p := ⟨w.heap.size, 0, none⟩) (Nat.le_refl _) _).setCell (p := ⟨w.heap.size, 1, none⟩) (Nat.le_refl _) _⟩

set_option maxHeartbeats 1000000 in
set_option maxRecDepth 100000 in
theorem New_no (n : Int) (h : mayB n = false) (w : World) : Calls Tryz.prog 42 #[.int .i64 n] w (DiskE [] [] 1 w) := by
  go_enter Tryz.func42, Tryz.ntmps42
  go_wp2_with (go_at_call 62; refine (mayHave_any _ _).mono ?_; rintro e w' ⟨rfl, rfl⟩; rw [h])
  exact bodyPost_ret (v := .tuple #[.agg #[.slice none 0 0, .slice none 0 0], .int .i64 1]) (by simp [results, Tryz.results42, go_sem]) rfl ⟨_, _, rfl, ⟨.inl ⟨rfl, rfl⟩, from_nil _⟩, ⟨.inl ⟨rfl, rfl⟩, from_nil _⟩, (Below.refl _ _).alloc (Nat.le_refl _) _⟩

set_option maxHeartbeats 1000000 in
set_option maxRecDepth 100000 in
theorem New_yes (n : Nat) (h1 : 1 ≤ n) (hn : n ≤ 512) (w : World) : Calls Tryz.prog 42 #[.int .i64 n] w (DiskE (List.replicate n zeros) [] 0 w) := by
  have h : mayB n = true := mayB_t.2 ⟨by omega, by omega⟩
  go_enter Tryz.func42, Tryz.ntmps42
  go_wp2_with (first | (go_at_call 62; refine (mayHave_any _ _).mono ?_; rintro e w' ⟨rfl, rfl⟩; rw [h]) | (go_at_call 74; refine (Repeat0_any _).mono ?_; rintro e x ⟨rfl, hx⟩))
  have hal : Below x.heap.size x (x.alloc (.cells #[.string zeros] 9)) := (Below.refl _ _).alloc (Nat.le_refl _) _
  have hc1 : (x.alloc (.cells #[.string zeros] 9)).cell? ⟨x.heap.size, 0, none⟩ = some (.string zeros) := by simp
  refine (RepeatS_any h1 hn (by simp) hc1).mono ?_
  rintro e y ⟨v, rfl, hown, hy⟩
  have hx' : Below w.heap.size w x := ((Below.refl _ _).alloc (Nat.le_refl _) _).trans (hx.mono (by simp))
  have hb1 : Below x.heap.size x y := below_trans hal hy
  have hxs : w.heap.size + 1 ≤ x.heap.size := by have := hx.size; simpa using this
  have hbx : Box2 w.heap.size (.slice none 0 0) (.slice none 0 0) y := (((Box2.made w (.slice none 0 0) (.slice none 0 0) 25).below hx).below hb1)
  have hfr : From (w.heap.size + 1) v := by
    intro g o n' cap' e
    subst e
    have := ((World.ownsRow.lt hown) g rfl).1
    simp at this
    omega
  have HE := Lib.hid (Box2.ends hbx (below_trans hx' hb1) ⟨hown.row, hfr⟩ ⟨.inl ⟨rfl, rfl⟩, from_nil _⟩)
  obtain ⟨av, capv, rfl⟩ := hown.row.slice
  obtain ⟨b0, b1, b2, b3, b4⟩ := hbx
  clear hown hy hb1 hx' hal hc1 hfr hx
  rw [List.length_replicate] at HE ⊢
  go_wp2_with fail
  obtain ⟨⟨z0, z1, z2, _⟩, z3⟩ := HE.out
  exact bodyPost_ret (v := .tuple #[.agg #[.slice av n capv, .slice none 0 0], .int .i64 0]) (by simp [results, Tryz.results42, go_sem, z1, z2]) rfl ⟨_, _, rfl, z3⟩
end Go.Proofs.YtlpkalfbcphkmaaGreat.Disk

/-
  The calls of package disk, each with one answer for whatever comes in.
-/
namespace Go.Proofs.YtlpkalfbcphkmaaGreat.Disk
open Go.RowKit Go.Lib

def newL (n : Int) : List ByteArray := if mayB n = true then List.replicate n.toNat zeros else []
def newE (n : Int) : Int := if mayB n = true then 0 else 1
theorem New_any (n : Int) (w : World) : Calls Tryz.prog 42 #[.int .i64 n] w (DiskE (newL n) [] (newE n) w) := by
  unfold newL newE
  by_cases h : mayB n = true
  · rw [if_pos h, if_pos h]
    have := mayB_t.1 h
    obtain ⟨m, rfl⟩ : ∃ m : Nat, n = m := ⟨n.toNat, by omega⟩
    exact New_yes m (by omega) (by omega) w
  · rw [if_neg h, if_neg h]
    exact New_no n (by simpa using h) w
noncomputable def putR (ls : List ByteArray) (ws : List (Int × ByteArray)) (i : Int) (d : ByteArray) : Int := if rightB ls ws = true then putE ls.length ws.length i d.size else 1
noncomputable def putL (ls : List ByteArray) (ws : List (Int × ByteArray)) (i : Int) (d : ByteArray) : List ByteArray := if putR ls ws i d = 0 then ls else []
noncomputable def putW (ls : List ByteArray) (ws : List (Int × ByteArray)) (i : Int) (d : ByteArray) : List (Int × ByteArray) := if putR ls ws i d = 0 then ws ++ [(i, d)] else []
theorem putE_zero {n m : Nat} {i : Int} {s : Nat} (h : putE n m i s = 0) (hm : m ≤ 64) : hasB n i = true ∧ s = 64 ∧ m < 64 := by
  unfold putE at h
  split at h
  · cases h
  · rename_i h1
    split at h
    · cases h
    · rename_i h2
      split at h
      · cases h
      · rename_i h3
        exact ⟨by simpa using h1, by omega, by omega⟩
theorem Put_any {vS vW : Value} {ls : List ByteArray} {ws : List (Int × ByteArray)} {w : World} (hS : SRow w vS ls) (hW : WRow w vW ws) (hr : smallP ls ws) (i : Int) (d : ByteArray) : Calls Tryz.prog 81 #[.agg #[vS, vW], .int .i64 i, .string d] w (DiskE (putL ls ws i d) (putW ls ws i d) (putR ls ws i d) w) := by
  by_cases hb : rightB ls ws = true
  · have e : putR ls ws i d = putE ls.length ws.length i d.size := if_pos hb
    unfold putL putW
    rw [e]
    by_cases h0 : putE ls.length ws.length i d.size = 0
    · obtain ⟨h1, h2, h3⟩ := putE_zero h0 (rightB_t.1 hb).2.2.1
      rw [if_pos h0, if_pos h0, h0]
      exact Put_yes hS hW hb i d h1 h2 h3
    · rw [if_neg h0, if_neg h0]
      exact Put_no hS hW hr hb i d h0
  · have e : putR ls ws i d = 1 := if_neg hb
    unfold putL putW
    rw [e, if_neg (by omega), if_neg (by omega)]
    exact Put_bad hS hW hr (by simpa using hb) i d
noncomputable def getSS (ls : List ByteArray) (ws : List (Int × ByteArray)) (k : Int) : ByteArray := if rightB ls ws = true then getS ls ws k else ⟨#[]⟩
noncomputable def getEE (ls : List ByteArray) (ws : List (Int × ByteArray)) (k : Int) : Int := if rightB ls ws = true then getE ls.length k else 1
theorem Get_all {vS vW : Value} {ls : List ByteArray} {ws : List (Int × ByteArray)} {w : World} (hS : SRow w vS ls) (hW : WRow w vW ws) (hr : smallP ls ws) (k : Int) : Calls Tryz.prog 80 #[.agg #[vS, vW], .int .i64 k] w (TextE (getSS ls ws k) (getEE ls ws k) w) := by
  unfold getSS getEE
  by_cases hb : rightB ls ws = true
  · rw [if_pos hb, if_pos hb]; exact Get_any hS hW hb k
  · rw [if_neg hb, if_neg hb]; exact Get_bad hS hW hr (by simpa using hb) k
noncomputable def crashR (kp : Nat) (ls : List ByteArray) (ws : List (Int × ByteArray)) (t : Int) : List ByteArray := if rightB ls ws = true then crashL kp ls ws t else []
noncomputable def rightE (ls : List ByteArray) (ws : List (Int × ByteArray)) : Int := if rightB ls ws = true then 0 else 1
theorem Crash_all {vS vW : Value} {ls : List ByteArray} {ws : List (Int × ByteArray)} {w : World} (hS : SRow w vS ls) (hW : WRow w vW ws) (hr : smallP ls ws) (kp : Nat) (hkp : kp < 18446744073709551616) (t : Int) : Calls Tryz.prog 57 #[.agg #[vS, vW], .int .u64 kp, .int .i64 t] w (DiskE (crashR kp ls ws t) [] (rightE ls ws) w) := by
  unfold crashR rightE
  by_cases hb : rightB ls ws = true
  · rw [if_pos hb, if_pos hb]; exact Crash_yes hS hW hb kp hkp t
  · rw [if_neg hb, if_neg hb]; exact Crash_bad hS hW hr (by simpa using hb) kp t
theorem Flush_all {vS vW : Value} {ls : List ByteArray} {ws : List (Int × ByteArray)} {w : World} (hS : SRow w vS ls) (hW : WRow w vW ws) (hr : smallP ls ws) : Calls Tryz.prog 77 #[.agg #[vS, vW]] w (DiskE (crashR 18446744073709551615 ls ws 0) [] (rightE ls ws) w) := by
  unfold crashR rightE
  by_cases hb : rightB ls ws = true
  · rw [if_pos hb, if_pos hb]; exact Flush_yes hS hW hb
  · rw [if_neg hb, if_neg hb]; exact Flush_bad hS hW hr (by simpa using hb)
end Go.Proofs.YtlpkalfbcphkmaaGreat.Disk

/-
  Plain mathematics of sealing: which bytes are laid where, and what a crash leaves of them. No program in it.
-/
namespace Go.Proofs.YtlpkalfbcphkmaaGreat.Disk.Jn
open Go.Lib
open Go.Proofs.YtlpkalfbcphkmaaGreat.Frame (frm frms frms_append frms_snoc frm_pos frm_len size_list mk_list mk_size)

/-- Sector i of a half, s as it was, behind the bytes that are laid from a place on. -/
def secD (s : ByteArray) (fr : Nat) (bs : List UInt8) (i : Nat) : ByteArray :=
  ⟨((List.range 64).map fun m => if fr ≤ 64 * i + m ∧ 64 * i + m < fr + bs.length then bs.getD (64 * i + m - fr) 0 else s.data.toList.getD m 0).toArray⟩
theorem secD_size (s : ByteArray) (fr : Nat) (bs : List UInt8) (i : Nat) : (secD s fr bs i).size = 64 := by unfold secD; rw [mk_size]; simp
theorem secD_at {s : ByteArray} (hs : s.size = 64) (fr : Nat) (bs : List UInt8) {i m : Nat} (hm : m < 64) :
    (secD s fr bs i).data.toList[m]? = if fr ≤ 64 * i + m ∧ 64 * i + m < fr + bs.length then bs[64 * i + m - fr]? else s.data.toList[m]? := by
  unfold secD
  rw [mk_list, List.getElem?_map, List.getElem?_range hm, Option.map_some]
  split
  · rename_i h
    rw [List.getD, List.getElem?_eq_getElem (by omega)]; rfl
  · rw [List.getD, List.getElem?_eq_getElem (by rw [size_list]; omega)]; rfl
/-- How many sectors are written. -/
def layK (fr len : Nat) : Nat := if len = 0 then 0 else (fr % 64 + len + 63) / 64
/-- The first k writes. -/
def layW (ls : List ByteArray) (half fr : Nat) (bs : List UInt8) (k : Nat) : List (Int × ByteArray) :=
  (List.range k).map fun i => (((begN ls.length half + fr / 64 + i : Nat) : Int), secD (ls.getD (begN ls.length half + fr / 64 + i) ⟨#[]⟩) fr bs (fr / 64 + i))
theorem layW_len (ls : List ByteArray) (half fr : Nat) (bs : List UInt8) (k : Nat) : (layW ls half fr bs k).length = k := by simp [layW]
theorem layW_succ (ls : List ByteArray) (half fr : Nat) (bs : List UInt8) (k : Nat) :
    layW ls half fr bs (k + 1) = layW ls half fr bs k ++ [(((begN ls.length half + fr / 64 + k : Nat) : Int), secD (ls.getD (begN ls.length half + fr / 64 + k) ⟨#[]⟩) fr bs (fr / 64 + k))] := by
  simp [layW, List.range_succ]
theorem layW_mem {ls : List ByteArray} {half fr : Nat} {bs : List UInt8} {k : Nat} {y : Int × ByteArray} (h : y ∈ layW ls half fr bs k) :
    ∃ i, i < k ∧ y.1 = ((begN ls.length half + fr / 64 + i : Nat) : Int) ∧ y.2 = secD (ls.getD (begN ls.length half + fr / 64 + i) ⟨#[]⟩) fr bs (fr / 64 + i) := by
  simp only [layW, List.mem_map, List.mem_range] at h
  obtain ⟨i, hi, rfl⟩ := h
  exact ⟨i, hi, rfl, rfl⟩
theorem layW_rd (ls : List ByteArray) (half fr : Nat) (bs : List UInt8) (a : Nat) (x : ByteArray) : ∀ k, rd a x (layW ls half fr bs k) =
    if begN ls.length half + fr / 64 ≤ a ∧ a < begN ls.length half + fr / 64 + k then secD (ls.getD a ⟨#[]⟩) fr bs (a - begN ls.length half) else x
  | 0 => by rw [if_neg (by omega)]; rfl
  | k + 1 => by
    rw [layW_succ, rd_snoc, layW_rd ls half fr bs a x k]
    by_cases h : begN ls.length half + fr / 64 + k = a
    · subst h
      rw [if_pos rfl, if_pos (by omega), show begN ls.length half + fr / 64 + k - begN ls.length half = fr / 64 + k by omega]
    · rw [if_neg (by dsimp only; omega)]
      by_cases h2 : begN ls.length half + fr / 64 ≤ a ∧ a < begN ls.length half + fr / 64 + k
      · rw [if_pos h2, if_pos (by omega)]
      · rw [if_neg h2, if_neg (by omega)]
/-- All that is laid ahead of the first flush. -/
def firstW (ls : List ByteArray) (q half fr : Nat) (bs : List UInt8) : List (Int × ByteArray) := layW ls half fr bs (layK fr bs.length) ++ [((q : Int), zeros)]

/-- What is sealed fits into its half. -/
structure Fits (n half fr len : Nat) : Prop where
  n8 : 8 ≤ n
  h1 : half ≤ 1
  room : fr + len ≤ roomN n
theorem Fits.in {n half fr len : Nat} (h : Fits n half fr len) {k : Nat} (hk : k < layK fr len) : fr / 64 + k < hsN n := by
  have := h.room
  unfold layK at hk
  split at hk
  · omega
  · unfold roomN at this; omega
theorem begN_two (n half : Nat) : 2 ≤ begN n half := by unfold begN; omega
theorem put_rights {ls : List ByteArray} {half fr : Nat} {bs : List UInt8} (hr : rightB ls [] = true) (hf : Fits ls.length half fr bs.length) (hl : bs.length ≤ 3900) : ∀ k, k ≤ layK fr bs.length → rightB ls (layW ls half fr bs k) = true ∧ k ≤ 62
  | 0, _ => ⟨hr, by omega⟩
  | k + 1, hk => by
    have h1 := put_rights hr hf hl k (by omega)
    have h2 := hf.in (k := k) (by omega)
    have h3 := hs_le hf.n8 hf.h1
    have h4 : k + 1 ≤ 62 := by
      unfold layK at hk
      split at hk
      · omega
      · omega
    refine ⟨?_, h4⟩
    rw [layW_succ]
    refine put_right h1.1 (hasB_t.2 ⟨by omega, by omega⟩) (secD_size _ _ _ _) ?_
    rw [layW_len]; omega
theorem first_right {ls : List ByteArray} {q half fr : Nat} {bs : List UInt8} (hr : rightB ls [] = true) (hf : Fits ls.length half fr bs.length) (hl : bs.length ≤ 3900) (hq : q < 2) : rightB ls (firstW ls q half fr bs) = true := by
  have h1 := put_rights hr hf hl _ (Nat.le_refl _)
  have := hf.n8
  exact put_right h1.1 (hasB_t.2 ⟨by omega, by omega⟩) zeros_size (by rw [layW_len]; omega)
/-- A sector to which only the last write goes. -/
theorem crash_last {kp : Nat} {ls : List ByteArray} {ws : List (Int × ByteArray)} {a : Nat} {d : ByteArray} {t : Int} (h : rightB ls (ws ++ [((a : Int), d)]) = true) (hno : ∀ y ∈ ws, y.1 ≠ a) :
    (crashL kp ls (ws ++ [((a : Int), d)]) t).getD a ⟨#[]⟩ = d ∨ (crashL kp ls (ws ++ [((a : Int), d)]) t).getD a ⟨#[]⟩ = ls.getD a ⟨#[]⟩ ∨ (0 < t ∧ t < 64 ∧ (crashL kp ls (ws ++ [((a : Int), d)]) t).getD a ⟨#[]⟩ = torn (ls.getD a ⟨#[]⟩) d t.toNat) := by
  have hP := rightB_t.1 h
  have ha : a < ls.length := by
    have := (hP.2.2.2.2 ws.length (by simp)).2.1
    simp at this
    omega
  have hkeep : ∀ k, k ≤ ws.length → (keepTo kp ls (ws ++ [((a : Int), d)]) k).getD a ⟨#[]⟩ = ls.getD a ⟨#[]⟩ := by
    intro k
    induction k with
    | zero => intro _; rfl
    | succ k ih =>
      intro hk
      unfold keepTo
      split
      · have hw : wat (ws ++ [((a : Int), d)]) k = ws[k]'(by omega) := by rw [wat_at (by simp; omega), List.getElem_append_left (by omega)]
        have h0 : 0 ≤ (ws[k]'(by omega)).1 := by
          have := (hP.2.2.2.2 k (by simp; omega)).1
          rwa [List.getElem_append_left (by omega)] at this
        have hne := hno (ws[k]'(by omega)) (List.getElem_mem _)
        rw [hw, List.getD, List.getElem?_set, if_neg (by omega)]
        exact ih (by omega)
      · exact ih (by omega)
  have hlast : wat (ws ++ [((a : Int), d)]) ws.length = ((a : Int), d) := by rw [wat_at (by simp)]; simp
  have hlen : (ws ++ [((a : Int), d)]).length = ws.length + 1 := by simp
  have hk1 := keepTo_len kp ls (ws ++ [((a : Int), d)]) ws.length
  unfold crashL
  rw [hlen]
  by_cases hb : bitB kp ws.length = true
  · left
    have e1 : (keepTo kp ls (ws ++ [((a : Int), d)]) (ws.length + 1)).getD a ⟨#[]⟩ = d := by
      unfold keepTo
      rw [if_pos hb, hlast, List.getD, List.getElem?_set]
      simp only [Int.toNat_natCast, if_true]
      rw [if_pos (by omega)]; rfl
    have e2 : lostO kp (ws.length + 1) = lostO kp ws.length := by rw [lostO, if_pos hb]
    rw [e2]
    cases hl : lostO kp ws.length with
    | none => exact e1
    | some r =>
      have hr := lostO_lt hl
      dsimp only
      split
      · have hw : wat (ws ++ [((a : Int), d)]) r = ws[r] := by rw [wat_at (by simp; omega), List.getElem_append_left (by omega)]
        have h0 : 0 ≤ ws[r].1 := by
          have := (hP.2.2.2.2 r (by simp; omega)).1
          rwa [List.getElem_append_left (by omega)] at this
        have hne := hno ws[r] (List.getElem_mem _)
        rw [hw, List.getD, List.getElem?_set, if_neg (by omega)]
        exact e1
      · exact e1
  · have e1 : keepTo kp ls (ws ++ [((a : Int), d)]) (ws.length + 1) = keepTo kp ls (ws ++ [((a : Int), d)]) ws.length := by rw [keepTo, if_neg hb]
    have e2 : lostO kp (ws.length + 1) = some ws.length := by rw [lostO, if_neg hb]
    rw [e1, e2]
    dsimp only
    right
    split
    · rename_i ht
      right
      refine ⟨ht.1, ht.2, ?_⟩
      rw [hlast]
      simp only [Int.toNat_natCast]
      rw [List.getD, List.getElem?_set, if_pos rfl, if_pos (by omega), Option.getD_some, hkeep _ (Nat.le_refl _)]
    · left; exact hkeep _ (Nat.le_refl _)
end Go.Proofs.YtlpkalfbcphkmaaGreat.Disk.Jn

/-
  Plain mathematics of crashes within sealing: the disk opens with the records as they were, or, if it was late, perhaps as they would be. No program in it.
-/
namespace Go.Proofs.YtlpkalfbcphkmaaGreat.Disk.Jn
open Go.Lib
open Go.Proofs.YtlpkalfbcphkmaaGreat.Frame (frm frms frms_append frms_snoc frm_pos frm_len size_list mk_list mk_size)

/-- What is sealed, of a disk that opens, and the records behind that. -/
structure Seals (ls : List ByteArray) (t : Told) (half fr : Nat) (bs : List UInt8) (l' : List ByteArray) : Prop where
  fits : Fits ls.length half fr bs.length
  short : bs.length ≤ 3900
  lt : t.seals < 1099511627776
  apart : half = t.half → t.used ≤ fr
  bytes : (bytesOf ls half).take fr ++ bs = frms l'
  sizes : ∀ d ∈ l', d.size ≤ 4096
/-- The head that tells it. -/
def nextT (t : Told) (half fr len : Nat) : Told := ⟨half, t.seals + 1, fr + len⟩

theorem byt_some {s : ByteArray} {i : Nat} (h : i < s.size) : s.data.toList[i]? = some (UInt8.ofNat (byt s i)) := by
  unfold byt
  rw [List.getD, List.getElem?_eq_getElem (by rw [size_list]; exact h)]
  simp
theorem byt_same {s s' : ByteArray} (h : s.size = 64) (h' : s'.size = 64) {i : Nat} (hi : i < 64) (e : byt s i = byt s' i) : s.data.toList[i]? = s'.data.toList[i]? := by
  rw [byt_some (by omega), byt_some (by omega), e]
theorem same_of {s s' : ByteArray} (h : s.size = 64) (h' : s'.size = 64) (e : ∀ i, i < 64 → s.data.toList[i]? = s'.data.toList[i]?) : s = s' := by
  apply same_bytes
  apply List.ext_getElem?
  intro i
  by_cases hi : i < 64
  · exact e i hi
  · rw [List.getElem?_eq_none (by rw [size_list]; omega), List.getElem?_eq_none (by rw [size_list]; omega)]
theorem secs_get {ls : List ByteArray} (h : Secs64 ls) {a : Nat} (ha : a < ls.length) : (ls.getD a ⟨#[]⟩).size = 64 := by
  rw [getD_eq ha]; exact h _ (List.getElem_mem _)
/-- A sector of no writes. -/
theorem crash_other {kp : Nat} {ls : List ByteArray} {ws : List (Int × ByteArray)} {t : Int} (h : rightB ls ws = true) {a : Nat} (ha : a < ls.length) (hno : ∀ y ∈ ws, y.1 ≠ a) : (crashL kp ls ws t).getD a ⟨#[]⟩ = ls.getD a ⟨#[]⟩ := by
  obtain ⟨hm, hz⟩ := crashL_made (kp := kp) (rightB_t.1 h) t ha
  refine same_of hz (secs_get (secs_of h) ha) fun i hi => byt_same hz (secs_get (secs_of h) ha) hi ?_
  rcases hm i hi with e | ⟨j, hj, e, _⟩
  · exact e
  · exact absurd e (hno _ (List.getElem_mem hj))
/-- The halves lie apart. -/
theorem halves {n h1 h2 i j : Nat} (h : h1 ≤ 1) (h' : h2 ≤ 1) (hi : i < hsN n) (hj : j < hsN n) (e : begN n h1 + i = begN n h2 + j) : h1 = h2 ∧ i = j := by
  unfold begN at e
  rcases (by omega : h1 = 0 ∨ h1 = 1) with rfl | rfl <;> rcases (by omega : h2 = 0 ∨ h2 = 1) with rfl | rfl <;> omega
/-- Bytes of the records are not touched. -/
theorem lay_keeps {ls : List ByteArray} {t : Told} {l : List ByteArray} {half fr : Nat} {bs : List UInt8} {l' : List ByteArray} (h : Opens ls t l) (s : Seals ls t half fr bs l') {j : Nat} (hj : j < t.used) {y : Int × ByteArray}
    (hy : y ∈ firstW ls ((t.seals + 1) % 2) half fr bs) (e : y.1 = ((begN ls.length t.half + j / 64 : Nat) : Int)) : y.2.data.toList[j % 64]? = secB ls (begN ls.length t.half + j / 64) (j % 64) := by
  have hm := opens_may h
  have hj2 : j / 64 < hsN ls.length := by have := hm.2.2.2; unfold roomN at this; omega
  rcases List.mem_append.1 hy with hy | hy
  · obtain ⟨i, hi, e1, e2⟩ := layW_mem hy
    rw [e1] at e
    have hin := s.fits.in hi
    obtain ⟨rfl, e3⟩ := halves s.fits.h1 hm.1 hin hj2 (by omega : begN ls.length half + (fr / 64 + i) = begN ls.length t.half + j / 64)
    have ha := hs_le h.2.1 hm.1
    have h4 := s.apart rfl
    rw [e2, Nat.add_assoc, e3, secD_at (secs_get (secs_of h.1) (by omega)) fr bs (by omega), if_neg (by omega)]
    rfl
  · have := begN_two ls.length t.half
    simp at hy
    subst hy
    simp at e
    omega
theorem torn_zero {s d : ByteArray} {k : Nat} (hk : 0 < k) (hd : d.data.toList[0]? = some 0) : (torn s d k).data.toList[0]? = some 0 := by
  unfold torn
  rw [mk_list, over_at]
  have hl : 0 < d.data.toList.length := by
    apply Classical.byContradiction
    intro hc
    rw [List.getElem?_eq_none (by omega)] at hd
    cases hd
  rw [if_pos (by rw [List.length_take]; omega), List.getElem?_take, if_pos hk]
  exact hd
theorem zeros_first : zeros.data.toList[0]? = some 0 := by decide +kernel

/-- Ahead of the first flush: the records as they were. -/
theorem early {ls : List ByteArray} {t : Told} {l : List ByteArray} {half fr : Nat} {bs : List UInt8} {l' : List ByteArray} (h : Opens ls t l) (s : Seals ls t half fr bs l') (kp : Nat) (tn : Int) :
    Opens (crashL kp ls (firstW ls ((t.seals + 1) % 2) half fr bs) tn) t l := by
  have hR := first_right h.1 s.fits s.short (q := (t.seals + 1) % 2) (by omega)
  have hm := opens_may h
  have h8 := h.2.1
  refine opens_keep h (crash_right hR) (crashL_len _ _ _ _) ?_ ?_ ?_
  · refine crash_other hR (by omega) fun y hy => ?_
    rcases List.mem_append.1 hy with hy | hy
    · obtain ⟨i, hi, e1, _⟩ := layW_mem hy
      have := begN_two ls.length half
      omega
    · simp at hy; subst hy; simp; omega
  · intro q hq hne
    obtain rfl : q = (t.seals + 1) % 2 := by omega
    rcases crash_last (kp := kp) (t := tn) hR (fun y hy => by
      obtain ⟨i, hi, e1, _⟩ := layW_mem hy
      have := begN_two ls.length half
      omega) with e | e | ⟨h1, h2, e⟩
    · right; intro t'; exact head_not (by rw [firstW, e]; exact zeros_first) t'
    · left; exact e
    · right; intro t'; exact head_not (by rw [firstW, e]; exact torn_zero (by omega) zeros_first) t'
  · intro j hj
    have hj2 : j / 64 < hsN ls.length := by have := hm.2.2.2; unfold roomN at this; omega
    have ha := hs_le h8 hm.1
    obtain ⟨hmd, hz⟩ := crashL_made (kp := kp) (rightB_t.1 hR) tn (a := begN ls.length t.half + j / 64) (by omega)
    rcases hmd (j % 64) (by omega) with e | ⟨i, hi, e1, e2⟩
    · exact byt_same hz (secs_get (secs_of h.1) (by omega)) (by omega) e
    · have h3 := lay_keeps h s hj (List.getElem_mem hi) e1
      rw [← h3]
      exact byt_same hz ((rightB_t.1 hR).2.2.2.2 i hi).2.2 (by omega) e2.symm

/-- The disk behind the first flush. -/
def flushed (ls : List ByteArray) (t : Told) (half fr : Nat) (bs : List UInt8) : List ByteArray := flushL ls (firstW ls ((t.seals + 1) % 2) half fr bs)
theorem flushed_get {ls : List ByteArray} {t : Told} {half fr : Nat} {bs : List UInt8} (hR : rightB ls (firstW ls ((t.seals + 1) % 2) half fr bs) = true) {a : Nat} (ha : a < ls.length) : (flushed ls t half fr bs).getD a ⟨#[]⟩ =
    if a = (t.seals + 1) % 2 then zeros else if begN ls.length half + fr / 64 ≤ a ∧ a < begN ls.length half + fr / 64 + layK fr bs.length then secD (ls.getD a ⟨#[]⟩) fr bs (a - begN ls.length half) else ls.getD a ⟨#[]⟩ := by
  unfold flushed
  rw [flush_rd (rightB_t.1 hR) ha, firstW, rd_snoc, layW_rd]
  by_cases c : a = (t.seals + 1) % 2
  · rw [if_pos (by rw [c]), if_pos c]
  · rw [if_neg (by dsimp only; omega), if_neg c]
theorem flushed_right {ls : List ByteArray} {t : Told} {half fr : Nat} {bs : List UInt8} (hR : rightB ls (firstW ls ((t.seals + 1) % 2) half fr bs) = true) : rightB (flushed ls t half fr bs) [] = true := crash_right hR
theorem flushed_len (ls : List ByteArray) (t : Told) (half fr : Nat) (bs : List UInt8) : (flushed ls t half fr bs).length = ls.length := flush_len _ _
theorem flushed_opens {ls : List ByteArray} {t : Told} {l : List ByteArray} {half fr : Nat} {bs : List UInt8} {l' : List ByteArray} (h : Opens ls t l) (s : Seals ls t half fr bs l') : Opens (flushed ls t half fr bs) t l := early h s _ _
/-- What the half holds behind the first flush. -/
theorem flushed_bytes {ls : List ByteArray} {t : Told} {l : List ByteArray} {half fr : Nat} {bs : List UInt8} {l' : List ByteArray} (h : Opens ls t l) (s : Seals ls t half fr bs l') : (bytesOf (flushed ls t half fr bs) half).take (fr + bs.length) = frms l' := by
  have hR := first_right h.1 s.fits s.short (q := (t.seals + 1) % 2) (by omega)
  have h8 := h.2.1
  have hroom := s.fits.room
  have ha := hs_le h8 s.fits.h1
  have hlen := bytesOf_len (secs_of h.1) h8 s.fits.h1
  rw [← s.bytes]
  apply List.ext_getElem?
  intro j
  rw [List.getElem?_take]
  by_cases hj : j < fr + bs.length
  · have hj2 : j / 64 < hsN ls.length := by unfold roomN at hroom; omega
    have hb2 := begN_two ls.length half
    have e1 : 64 * (begN ls.length half + j / 64 - begN ls.length half) + j % 64 = j := by omega
    rw [if_pos hj, bytesOf_at (secs_of (flushed_right hR)) (by rw [flushed_len]; omega), flushed_len]
    unfold secB
    rw [flushed_get hR (by omega), if_neg (by omega)]
    by_cases hf : j < fr
    · rw [List.getElem?_append_left (by rw [List.length_take]; omega), List.getElem?_take, if_pos hf, bytesOf_at (secs_of h.1) (by omega)]
      split
      · rw [secD_at (secs_get (secs_of h.1) (by omega)) fr bs (by omega), e1, if_neg (by omega)]
        rfl
      · rfl
    · rw [List.getElem?_append_right (by rw [List.length_take]; omega), List.length_take, if_pos ?_, secD_at (secs_get (secs_of h.1) (by omega)) fr bs (by omega), e1, if_pos (by omega)]
      · congr 1; omega
      · unfold layK
        rw [if_neg (by omega)]
        omega
  · rw [if_neg hj, List.getElem?_eq_none (by rw [List.length_append, List.length_take]; omega)]
theorem next_may {ls : List ByteArray} {t : Told} {half fr : Nat} {bs : List UInt8} {l' : List ByteArray} (s : Seals ls t half fr bs l') : mayP ls.length (nextT t half fr bs.length) :=
  ⟨s.fits.h1, by simp [nextT], by have := s.lt; simp [nextT]; omega, s.fits.room⟩
/-- A disk that has the bytes, and the new head. -/
theorem told {ls ls' : List ByteArray} {t : Told} {l : List ByteArray} {half fr : Nat} {bs : List UInt8} {l' : List ByteArray} (h : Opens ls t l) (s : Seals ls t half fr bs l') (hr : rightB ls' [] = true) (hl : ls'.length = ls.length)
    (ho : ∀ a, a < ls.length → a ≠ (t.seals + 1) % 2 → ls'.getD a ⟨#[]⟩ = (flushed ls t half fr bs).getD a ⟨#[]⟩) (hq : ls'.getD ((t.seals + 1) % 2) ⟨#[]⟩ = headB (nextT t half fr bs.length)) : Opens ls' (nextT t half fr bs.length) l' := by
  have h8 := h.2.1
  have hF := flushed_opens h s
  have hR := first_right h.1 s.fits s.short (q := (t.seals + 1) % 2) (by omega)
  have hroom := s.fits.room
  have ha := hs_le h8 s.fits.h1
  refine opens_new hF hr (by rw [flushed_len, hl]) (ho _ (by omega) (by omega)) (by rw [flushed_len]; exact next_may s) rfl hq ?_ s.sizes
  show (bytesOf ls' half).take (fr + bs.length) = _
  rw [← flushed_bytes h s]
  refine take_same (secs_of (flushed_right hR)) (secs_of hr) (by rw [flushed_len, hl]) (by rw [flushed_len]; exact hroom) fun j hj => ?_
  have hj2 : j / 64 < hsN ls.length := by unfold roomN at hroom; omega
  have hb2 := begN_two ls.length half
  unfold secB
  rw [flushed_len, ho _ (by omega) (by omega)]

/-- The write of the new head. -/
def headW (t : Told) (half fr len : Nat) : List (Int × ByteArray) := [((((t.seals + 1) % 2 : Nat) : Int), headB (nextT t half fr len))]
theorem head_right {ls : List ByteArray} {t : Told} {half fr len : Nat} (hr : rightB ls [] = true) (h8 : 8 ≤ ls.length) : rightB ls (headW t half fr len) = true :=
  put_right (ws := []) hr (hasB_t.2 ⟨by omega, by omega⟩) (headB_size _) (by simp)
theorem torn_head {t : Told} {k : Nat} : torn zeros (headB t) k = ⟨((headL t).take k ++ List.replicate (64 - k) 0).toArray⟩ := by
  have hz : zeros.data.toList = List.replicate 64 0 := by decide +kernel
  unfold torn over
  rw [headB_list, hz, List.drop_replicate, List.length_take, headL_len]
  by_cases hk : k ≤ 64
  · rw [Nat.min_eq_left hk]
  · rw [Nat.min_eq_right (by omega), show 64 - k = 64 - 64 by omega]
/-- Ahead of the second flush: the records as they were, or as they would be. -/
theorem late {ls : List ByteArray} {t : Told} {l : List ByteArray} {half fr : Nat} {bs : List UInt8} {l' : List ByteArray} (h : Opens ls t l) (s : Seals ls t half fr bs l') (kp : Nat) (tn : Int) :
    Opens (crashL kp (flushed ls t half fr bs) (headW t half fr bs.length) tn) t l ∨ Opens (crashL kp (flushed ls t half fr bs) (headW t half fr bs.length) tn) (nextT t half fr bs.length) l' := by
  have h8 := h.2.1
  have hF := flushed_opens h s
  have hR := first_right h.1 s.fits s.short (q := (t.seals + 1) % 2) (by omega)
  have hH : rightB (flushed ls t half fr bs) (headW t half fr bs.length) = true := head_right hF.1 (by rw [flushed_len]; exact h8)
  have hlen : (crashL kp (flushed ls t half fr bs) (headW t half fr bs.length) tn).length = ls.length := by rw [crashL_len, flushed_len]
  have hoth : ∀ a, a < ls.length → a ≠ (t.seals + 1) % 2 → (crashL kp (flushed ls t half fr bs) (headW t half fr bs.length) tn).getD a ⟨#[]⟩ = (flushed ls t half fr bs).getD a ⟨#[]⟩ := fun a ha hne => by
    refine crash_other hH (by rw [flushed_len]; exact ha) fun y hy => ?_
    simp [headW] at hy
    subst hy
    dsimp only
    omega
  have hz : (flushed ls t half fr bs).getD ((t.seals + 1) % 2) ⟨#[]⟩ = zeros := by rw [flushed_get hR (by omega), if_pos rfl]
  have hdone : (crashL kp (flushed ls t half fr bs) (headW t half fr bs.length) tn).getD ((t.seals + 1) % 2) ⟨#[]⟩ = headB (nextT t half fr bs.length) → Opens (crashL kp (flushed ls t half fr bs) (headW t half fr bs.length) tn) (nextT t half fr bs.length) l' :=
    fun e => told h s (crash_right hH) hlen hoth e
  have hkeep : (∀ t', ¬ IsHead ls.length ((t.seals + 1) % 2) ((crashL kp (flushed ls t half fr bs) (headW t half fr bs.length) tn).getD ((t.seals + 1) % 2) ⟨#[]⟩) t') → Opens (crashL kp (flushed ls t half fr bs) (headW t half fr bs.length) tn) t l := by
    intro hno
    refine opens_keep hF (crash_right hH) (by rw [hlen, flushed_len]) (hoth _ (by omega) (by omega)) ?_ ?_
    · intro q hq hne
      obtain rfl : q = (t.seals + 1) % 2 := by omega
      right
      rw [flushed_len]
      exact hno
    · intro j hj
      have hm := opens_may h
      have hj2 : j / 64 < hsN ls.length := by have := hm.2.2.2; unfold roomN at this; omega
      have ha := hs_le h8 hm.1
      have hb2 := begN_two ls.length t.half
      unfold secB
      rw [flushed_len, hoth _ (by omega) (by omega)]
  rcases crash_last (kp := kp) (t := tn) (ws := []) hH (by simp) with e | e | ⟨h1, h2, e⟩
  · right; exact hdone e
  · left
    refine hkeep fun t' => head_not ?_ t'
    change (crashL kp (flushed ls t half fr bs) (headW t half fr bs.length) tn).getD ((t.seals + 1) % 2) ⟨#[]⟩ = _ at e
    rw [e, hz]; exact zeros_first
  · change (crashL kp (flushed ls t half fr bs) (headW t half fr bs.length) tn).getD ((t.seals + 1) % 2) ⟨#[]⟩ = _ at e
    rw [hz, torn_head] at e
    by_cases hc : ∃ t', IsHead ls.length ((t.seals + 1) % 2) ((crashL kp (flushed ls t half fr bs) (headW t half fr bs.length) tn).getD ((t.seals + 1) % 2) ⟨#[]⟩) t'
    · right
      obtain ⟨t', ht⟩ := hc
      rw [e] at ht
      refine hdone ?_
      rw [e, head_torn (by omega) ht]
      rfl
    · left
      exact hkeep fun t' ht => hc ⟨t', ht⟩
/-- The disk behind the second flush. -/
def sealedL (ls : List ByteArray) (t : Told) (half fr : Nat) (bs : List UInt8) : List ByteArray := flushL (flushed ls t half fr bs) (headW t half fr bs.length)
theorem sealed_opens {ls : List ByteArray} {t : Told} {l : List ByteArray} {half fr : Nat} {bs : List UInt8} {l' : List ByteArray} (h : Opens ls t l) (s : Seals ls t half fr bs l') : Opens (sealedL ls t half fr bs) (nextT t half fr bs.length) l' := by
  have h8 := h.2.1
  have hF := flushed_opens h s
  have hH : rightB (flushed ls t half fr bs) (headW t half fr bs.length) = true := head_right hF.1 (by rw [flushed_len]; exact h8)
  refine told h s (by unfold sealedL flushL; exact crash_right hH) (by unfold sealedL; rw [flush_len, flushed_len]) (fun a ha hne => ?_) ?_
  · unfold sealedL
    rw [flush_rd (rightB_t.1 hH) (by rw [flushed_len]; exact ha)]
    refine rd_none fun y hy => ?_
    simp [headW] at hy
    subst hy
    dsimp only
    omega
  · unfold sealedL
    rw [flush_rd (rightB_t.1 hH) (by rw [flushed_len]; omega)]
    simp [headW, rd]
/-- What Commit seals, and Compact. -/
theorem commit_seals {ls : List ByteArray} {t : Told} {l g : List ByteArray} (h : Opens ls t l) (hg : ∀ d ∈ g, d.size ≤ 4096) (h3 : (frms g).length ≤ 3000) (hroom : t.used + (frms g).length ≤ roomN ls.length) (hlt : t.seals < 1099511627776) :
    Seals ls t t.half t.used (frms g) (l ++ g) :=
  ⟨⟨h.2.1, (opens_may h).1, hroom⟩, by omega, hlt, fun _ => Nat.le_refl _, by rw [h.2.2.2.1, frms_append], fun d hd => by
    rcases List.mem_append.1 hd with hd | hd
    · exact h.2.2.2.2 d hd
    · exact hg d hd⟩
theorem compact_seals {ls : List ByteArray} {t : Told} {l : List ByteArray} {d : ByteArray} (h : Opens ls t l) (hd : d.size ≤ 3000) (hroom : (frm d).length ≤ roomN ls.length) (hlt : t.seals < 1099511627776) :
    Seals ls t (1 - t.half) 0 (frm d) [d] :=
  ⟨⟨h.2.1, by omega, by omega⟩, by have := Go.Proofs.YtlpkalfbcphkmaaGreat.Frame.frm_le d (by omega); omega, hlt, fun e => by have := (opens_may h).1; omega, by simp [frms], fun x hx => by simp at hx; subst hx; omega⟩
end Go.Proofs.YtlpkalfbcphkmaaGreat.Disk.Jn
