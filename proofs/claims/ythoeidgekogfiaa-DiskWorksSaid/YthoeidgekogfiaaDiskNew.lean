/-
  Contracts of slices.Repeat over one text, and of New (package disk): so many sectors of zeros.
-/
import Derived.Test.YthoeidgekogfiaaDiskCrash
import Derived.Test.YthoeidgekogfiaaShelf
import Derived.Laws.CopyOwn
namespace Go.Proofs.Ythoeidgekogfiaa.Disk
open Go.ChangeShapes Go.WideShapes Go.ChangeAt Go.RowKit Go.Lib

theorem Mul_one (n : Nat) (hn : n ≤ 512) (w : World) : Calls Try.prog 28 #[.int .u64 1, .int .u64 n] w fun e w' => e = .returned (.tuple #[.int .u64 0, .int .u64 n]) ∧ w = w' := by
  have := Any.bits_Mul (P := Try.prog) (ρ := Try.lays105_ren) { Try.lays105 with } 1 n (by omega) (by omega) w
  rw [Nat.one_mul, Nat.div_eq_of_lt (by omega), Nat.mod_eq_of_lt (by omega)] at this
  exact this.mono fun e w' h => ⟨h.1, h.2.symm⟩

/-- Block g holds n cells, of which the first k are the text z. -/
def Filling (g n k : Nat) (z : ByteArray) (W : World) : Prop :=
  ∃ cur : List Value, W.heap[g]? = some (.cells cur.toArray 9 (0, 0)) ∧ cur.length = n ∧ cur.take k = List.replicate k (.string z)
theorem Filling.cell {g n k : Nat} {z : ByteArray} {W : World} (h : Filling g n k z W) {j : Nat} (hj : j < k) : W.cell? ⟨g, j, none⟩ = some (.string z) := by
  obtain ⟨cur, h1, h2, h3⟩ := h
  have e : cur[j]? = some (.string z) := by
    have := congrArg (fun l => l[j]?) h3
    simp only [List.getElem?_take, if_pos hj, List.getElem?_replicate] at this
    exact this
  simp [World.cell?, h1, e]
theorem Filling.row {g n : Nat} {z : ByteArray} {W : World} {B : Nat} (h : Filling g n n z W) (hB : B ≤ g) (hn : n ≤ 512) : OwnS B (.slice (some ⟨g, 0, none⟩) n n) (List.replicate n z) W := by
  obtain ⟨cur, h1, h2, h3⟩ := h
  refine ⟨by simp [scells], .inr ⟨g, n, cur.toArray, by simp, hB, h1, by simp, by unfold maxLen; omega, by simp [h2], ?_⟩⟩
  simp only [List.length_replicate, Nat.mul_one]
  rw [h3]
  simp [scells]
theorem take_splice {cur : List Value} {k m n : Nat} {x : Value} (hl : cur.length = n) (hk : cur.take k = List.replicate k x) (hm : k + m ≤ n) : (splice cur k (List.replicate m x)).length = n ∧ (splice cur k (List.replicate m x)).take (k + m) = List.replicate (k + m) x := by
  refine ⟨by rw [length_splice _ _ _ (by simp; omega), hl], ?_⟩
  unfold splice
  have e : (cur.take k ++ List.replicate m x).length = k + m := by simp; omega
  rw [← List.append_assoc, List.take_left' e, hk]
  simp

theorem copied {w0 W : World} {g n k m dLen dCap sLen sCap : Nat} {z : ByteArray} {a : Addr} {ty : TypeId} (h : Filling g n k z W) (hb : Below w0.heap.size w0 W) (hg : w0.heap.size ≤ g) (hm : m = Nat.min sLen dLen) (hkm : k + m ≤ n)
    (hsrc : ∀ j, j < m → W.cell? (a.add j) = some (.string z)) :
    ∃ W', (Builtin.copy_ #[22, 22] ty #[.slice (some ⟨g, k, none⟩) dLen dCap, .slice (some a) sLen sCap]).run Try.prog W = .ok (.int .i64 m) W' ∧ Filling g n (k + m) z W' ∧ Below w0.heap.size w0 W' := by
  obtain ⟨i0, hi, hz0, hz1, hz2⟩ := info_parts Try.infoS
  have hs1 : (Try.prog.info? 9).map (·.size) = some 1 := by rw [hi]; simp [hz1]
  obtain ⟨cur, h1, h2, h3⟩ := h
  have hr := run_copy_row (P := Try.prog) W 22 22 ty 9 g k dLen dCap a sLen sCap cur.toArray 9 (List.replicate m (.string z)) Try.underlying22 hs1 h1 (by simpa using hm)
    (fun j v hj => by
      obtain ⟨hj1, hj2⟩ := List.getElem?_eq_some_iff.1 hj
      simp at hj1 hj2
      rw [← hj2]; exact hsrc j hj1) (by simp; omega) (fun v hv => by rw [(List.mem_replicate.1 hv).2]; rfl)
  have e : (cur.toArray.toList.take k ++ List.replicate m (Value.string z) ++ cur.toArray.toList.drop (k + (List.replicate m (Value.string z)).length)).toArray = (splice cur k (List.replicate m (.string z))).toArray := by simp [splice]
  rw [e] at hr
  refine ⟨W.setRow g (splice cur k (List.replicate m (.string z))).toArray, by rw [hr]; simp [goInt], ⟨splice cur k (List.replicate m (.string z)), ?_, take_splice h2 h3 hkm⟩, below_setRow hb hg _⟩
  rw [setRow_heap W g _ _ 9 _ h1]

set_option maxHeartbeats 2000000 in
set_option maxRecDepth 100000 in
theorem RepeatS_any {g0 cap0 n : Nat} {z : ByteArray} {w : World} (h1 : 1 ≤ n) (hn : n ≤ 512) (hg : g0 < w.heap.size) (hc : w.cell? ⟨g0, 0, none⟩ = some (.string z)) : Calls Try.prog 20 #[.slice (some ⟨g0, 0, none⟩) 1 cap0, .int .i64 n] w (NewS (List.replicate n z) w) := by
  have HM := Lib.hid (fun W => Mul_one n hn W)
  obtain ⟨i0, hi, hz0, hz1, hz2⟩ := info_parts Try.infoS
  have hs1 : (Try.prog.info? 9).map (·.size) = some 1 := by rw [hi]; simp [hz1]
  obtain ⟨W0, hmk, hown, hgr⟩ := run_makeSlice_full (P := Try.prog) w w.heap.size 22 9 i0 (.string ⟨#[]⟩) 1 Try.underlying22 hi hz0 hz1 .i64 .i64 n (by omega) (by rw [hz2]; omega) (by unfold maxLen; omega) (Nat.le_refl _)
  have hb0 : Below w.heap.size w W0 := (Below.refl _ _).grown hgr (Nat.le_refl _) (fun k e => by cases e)
  obtain ⟨cur, hcur, hcl⟩ : ∃ cur : List Value, W0.heap[w.heap.size]? = some (.cells cur.toArray 9 (0, 0)) ∧ cur.length = n := by
    obtain ⟨_, ⟨e, _⟩ | ⟨g, cap, cur, e, _, hh, _, _, hsz, _⟩⟩ := hown
    · cases e
    · cases e
      exact ⟨cur.toList, by simpa using hh, by simpa using hsz⟩
  obtain ⟨W1, hcp, hF1, hB1⟩ := copied (ty := 3) (n := n) (k := 0) (m := 1) (z := z) (dLen := n) (dCap := n) (sLen := 1) (sCap := cap0) (a := ⟨g0, 0, none⟩) (w0 := w) ⟨cur, hcur, hcl, by simp⟩ hb0 (Nat.le_refl _) (by show 1 = min 1 n; omega) (by omega)
    (fun j hj => by obtain rfl : j = 0 := by omega
                    simpa [Addr.add] using (hb0.cell (p := ⟨g0, 0, none⟩) hg).trans hc)
  have HF1 := Lib.hid hF1
  have HB1 := Lib.hid hB1
  clear hown hgr hcur hc hb0 hF1 hB1 hcl
  go_enter Try.func20, Try.ntmps20
  go_wp2_with (go_at_call 28; refine (HM.out _).mono ?_; rintro e w' ⟨rfl, rfl⟩)
  go_loopw [8] (fun i wr => ∃ k : Nat, 1 ≤ k ∧ k ≤ n ∧ i = .int .i64 k ∧ Filling w.heap.size n k z wr ∧ Below w.heap.size w wr) (fun i _ => n - (RowKit.intOf i).toNat)
  case atStart => exact ⟨1, Nat.le_refl _, h1, rfl, HF1.out, HB1.out⟩
  case round =>
    obtain ⟨k, hk1, hkn, rfl, hF, hbe⟩ := hrel
    have HF := Lib.hid hF
    have HBE := Lib.hid hbe
    clear hmk hcp
    by_cases hlt : k < n
    · obtain ⟨W2, hcp, hF2, hB2⟩ := copied (ty := 3) (n := n) (k := k) (m := min k (n - k)) (z := z) (dLen := n - k) (dCap := n - k) (sLen := k) (sCap := n) (a := ⟨w.heap.size, 0, none⟩) (w0 := w) (W := wr.drew) hF hbe.drew (Nat.le_refl _) rfl (by omega)
        (fun j hj => by rw [addr_at]; exact hF.cell (by omega))
      have HF2 := Lib.hid hF2
      have HB2 := Lib.hid hB2
      clear hF hbe hF2 hB2
      have hmk1 : 1 ≤ min k (n - k) := by omega
      have hmk2 : k + min k (n - k) ≤ n := by omega
      generalize min k (n - k) = m at hcp HF2 hmk1 hmk2
      go_upto_region 9 with (fail)
      have hwr : IntKind.i64.wrap ((k : Int) + (m : Int)) = (k : Int) + m := IntWalk.i64_in _ (by omega)
      go_region_held3 (fun _ => True) (first | trivial | fail) (fail)
      clear hwr hcp
      go_wp2
      go_roundw
      case rel => exact ⟨k + m, by omega, by omega, by go_num, HF2.out, HB2.out⟩
      case measure => simp [RowKit.intOf]; omega
    · obtain rfl : k = n := by omega
      clear hF hbe
      go_wp2
      go_ret
      exact ⟨_, rfl, HF.out.row (Nat.le_refl _) hn, HBE.out⟩

/-- A sector of zeros. -/
def zeros : ByteArray := ⟨(Lib.repeatL [0] 64).toArray⟩
theorem zeros_size : zeros.size = 64 := by decide +kernel
theorem Repeat0_any (w : World) : Calls Try.prog 13 #[.string ⟨#[0]⟩, .int .i64 64] w (TextB zeros w) :=
  (Try.strings_Repeat ⟨#[0]⟩ 64 w (by omega) (by decide)).mono fun _ _ h => h

theorem Box2.ends {w : World} {uS uW : Value} {W : World} {l : List ByteArray} {m : List (Int × ByteArray)} (h : Box2 w.heap.size (.slice none 0 0) (.slice none 0 0) W) (hb : Below w.heap.size w W) (hS : SRow W uS l ∧ From (w.heap.size + 1) uS) (hW : WRow W uW m ∧ From (w.heap.size + 1) uW) :
    Box2 w.heap.size uS uW ((W.setCell ⟨w.heap.size, 0, none⟩ uS).setCell ⟨w.heap.size, 1, none⟩ uW) ∧
    (SRow ((W.setCell ⟨w.heap.size, 0, none⟩ uS).setCell ⟨w.heap.size, 1, none⟩ uW) uS l ∧ From w.heap.size uS) ∧ (WRow ((W.setCell ⟨w.heap.size, 0, none⟩ uS).setCell ⟨w.heap.size, 1, none⟩ uW) uW m ∧ From w.heap.size uW) ∧
    Below w.heap.size w ((W.setCell ⟨w.heap.size, 0, none⟩ uS).setCell ⟨w.heap.size, 1, none⟩ uW) :=
  ⟨h.set uS uW, ⟨(hS.1.stored hS.2).stored hS.2, hS.2.mono (by omega)⟩, ⟨(hW.1.stored hW.2).stored hW.2, hW.2.mono (by omega)⟩, (hb.setCell (p := ⟨w.heap.size, 0, none⟩) (Nat.le_refl _) _).setCell (p := ⟨w.heap.size, 1, none⟩) (Nat.le_refl _) _⟩

set_option maxHeartbeats 1000000 in
set_option maxRecDepth 100000 in
theorem New_no (n : Int) (h : mayB n = false) (w : World) : Calls Try.prog 7 #[.int .i64 n] w (DiskE [] [] 1 w) := by
  go_enter Try.func7, Try.ntmps7
  go_wp2_with (go_at_call 19; refine (mayHave_any _ _).mono ?_; rintro e w' ⟨rfl, rfl⟩; rw [h])
  exact bodyPost_ret (v := .tuple #[.agg #[.slice none 0 0, .slice none 0 0], .int .i64 1]) (by simp [results, Try.results7, go_sem]) rfl ⟨_, _, rfl, ⟨.inl ⟨rfl, rfl⟩, from_nil _⟩, ⟨.inl ⟨rfl, rfl⟩, from_nil _⟩, (Below.refl _ _).alloc (Nat.le_refl _) _⟩

set_option maxHeartbeats 1000000 in
set_option maxRecDepth 100000 in
theorem New_yes (n : Nat) (h1 : 1 ≤ n) (hn : n ≤ 512) (w : World) : Calls Try.prog 7 #[.int .i64 n] w (DiskE (List.replicate n zeros) [] 0 w) := by
  have h : mayB n = true := mayB_t.2 ⟨by omega, by omega⟩
  go_enter Try.func7, Try.ntmps7
  go_wp2_with (first | (go_at_call 19; refine (mayHave_any _ _).mono ?_; rintro e w' ⟨rfl, rfl⟩; rw [h]) | (go_at_call 13; refine (Repeat0_any _).mono ?_; rintro e x ⟨rfl, hx⟩))
  have hal : Below x.heap.size x (x.alloc (.cells #[.string zeros] 9)) := (Below.refl _ _).alloc (Nat.le_refl _) _
  have hc1 : (x.alloc (.cells #[.string zeros] 9)).cell? ⟨x.heap.size, 0, none⟩ = some (.string zeros) := by simp
  refine (RepeatS_any h1 hn (by simp) hc1).mono ?_
  rintro e y ⟨v, rfl, hown, hy⟩
  have hx' : Below w.heap.size w x := ((Below.refl _ _).alloc (Nat.le_refl _) _).trans (hx.mono (by simp))
  have hb1 : Below x.heap.size x y := below_trans hal hy
  have hxs : w.heap.size + 1 ≤ x.heap.size := by have := hx.size; simpa using this
  have hbx : Box2 w.heap.size (.slice none 0 0) (.slice none 0 0) y := (((Box2.made w (.slice none 0 0) (.slice none 0 0) 25).below hx).below hb1)
  have hfr : From (w.heap.size + 1) v := by
    intro g o n' cap' e
    subst e
    have := ((World.ownsRow.lt hown) g rfl).1
    simp at this
    omega
  have HE := Lib.hid (Box2.ends hbx (below_trans hx' hb1) ⟨hown.row, hfr⟩ ⟨.inl ⟨rfl, rfl⟩, from_nil _⟩)
  obtain ⟨av, capv, rfl⟩ := hown.row.slice
  obtain ⟨b0, b1, b2, b3, b4⟩ := hbx
  clear hown hy hb1 hx' hal hc1 hfr hx
  rw [List.length_replicate] at HE ⊢
  go_wp2_with fail
  obtain ⟨⟨z0, z1, z2, _⟩, z3⟩ := HE.out
  exact bodyPost_ret (v := .tuple #[.agg #[.slice av n capv, .slice none 0 0], .int .i64 0]) (by simp [results, Try.results7, go_sem, z1, z2]) rfl ⟨_, _, rfl, z3⟩
end Go.Proofs.Ythoeidgekogfiaa.Disk
