/-
  Contract of the reference's ReadRow, over what a text is read as.
-/
import Derived.Test.YtlhbeckimhfbfaaReadRow
namespace Go.Proofs.Ytlhbeckimhfbfaa
open Go.ChangeShapes Go.WideShapes Go.ChangeAt Go.RowKit Go.Lib Go.Conc

set_option maxHeartbeats 2000000 in
set_option maxRecDepth 100000 in
theorem RefReadRow_bad {s : ByteArray} {n : Int} {t : ByteArray} {b : Int} (h : RdCount 256 s n t b) (hb : b ≠ 0) (hs : s.size ≤ maxLen) (w : World) :
    Calls Try.prog 20 #[.string s] w (RowI [] b w) := by
  have HR := Lib.hid (fun W => refCount_any h hs W)
  have hx : (b != 0) = true := by simpa using hb
  clear h hb hs
  go_enter Try.func20, Try.ntmps20
  go_wp2_with (go_at_call 35; (with_reducible refine (HR.out _).mono ?_); rintro e x1 ⟨rfl, hx1⟩)
  go_quiet (fail)
  go_wp2
  go_ret2
  exact ⟨_, rfl, World.ownsRow_nil _ _ _ _, below_trans (below_trans hx1 ((Below.refl _ _).alloc (Nat.le_refl _) _)) (bel_drewN _ _)⟩

/-- The block of a struct variable of the reference's T. -/
def TBlock (bT : Nat) (wr : World) : Prop := ∃ c0 c1 c2 : Value, wr.cell? ⟨bT, 0, none⟩ = some c0 ∧ wr.cell? ⟨bT, 1, none⟩ = some c1 ∧ wr.cell? ⟨bT, 2, none⟩ = some c2 ∧
  wr.frozen? ⟨bT, 0, none⟩ = false ∧ wr.frozen? ⟨bT, 1, none⟩ = false ∧ wr.frozen? ⟨bT, 2, none⟩ = false

theorem made_two (x1 : World) (o : Obj) (e : TypeId) : ((x1.alloc o).alloc (.cells #[] e)).ownsRow (x1.heap.size + 1) e 1 (.slice (some ⟨x1.heap.size + 1, 0, none⟩) 0 0) 0 [] := by
  have h := World.ownsRow_made (base := x1.heap.size + 1) (e := e) (size := 1) (x1.alloc o) #[] 0 (by simp) (by decide) rfl
  simpa using h
theorem tblock_new (x1 : World) (c0 c1 c2 : Value) (T : TypeId) (o : Obj) : TBlock x1.heap.size ((x1.alloc (.cells #[c0, c1, c2] T)).alloc o) := by
  obtain ⟨h0, h1, h2, f0, f1, f2, _⟩ := three_cells (W := x1) (c0 := c0) (c1 := c1) (c2 := c2) (T := T) ((Below.refl _ _).alloc (Nat.le_refl _) o)
  exact ⟨c0, c1, c2, h0, h1, h2, f0, f1, f2⟩
theorem tblock_below {bT : Nat} {w w' : World} (h : TBlock bT w) (hb : Below w.heap.size w w') (hs : bT < w.heap.size) : TBlock bT w' := by
  obtain ⟨c0, c1, c2, h0, h1, h2, f0, f1, f2⟩ := h
  exact ⟨c0, c1, c2, (hb.cell hs).trans h0, (hb.cell hs).trans h1, (hb.cell hs).trans h2, (hb.frozen hs).trans f0, (hb.frozen hs).trans f1, (hb.frozen hs).trans f2⟩
/-- A row that is owned stays so, if below the heap's size nothing has turned. -/
theorem own_below {B : Nat} {e : TypeId} {z : Nat} {v : Value} {n : Nat} {xs : List Value} {w w' : World} (h : w.ownsRow B e z v n xs) (hb : Below w.heap.size w w') : w'.ownsRow B e z v n xs := by
  obtain ⟨h1, h2 | ⟨g, cp, cur, hv, hg, hh, h3⟩⟩ := h
  · exact ⟨h1, .inl h2⟩
  · exact ⟨h1, .inr ⟨g, cp, cur, hv, hg, (hb.block g (lt_of_heap hh)).trans hh, h3⟩⟩

/-- The world behind the store of a struct into its block. -/
def put3 (bT : Nat) (u0 u1 u2 : Value) (x : World) : World := ((x.setCell ⟨bT, 0, none⟩ u0).setCell ⟨bT, 1, none⟩ u1).setCell ⟨bT, 2, none⟩ u2
theorem put3_size (bT : Nat) (u0 u1 u2 : Value) (x : World) : (put3 bT u0 u1 u2 x).heap.size = x.heap.size := by
  unfold put3
  rw [World.size_setCell, World.size_setCell, World.size_setCell]
theorem stored3 {bT : Nat} {x : World} {u0 u1 u2 c0 c1 c2 : Value} (h0 : x.cell? ⟨bT, 0, none⟩ = some c0) (h1 : x.cell? ⟨bT, 1, none⟩ = some c1) (h2 : x.cell? ⟨bT, 2, none⟩ = some c2) :
    (put3 bT u0 u1 u2 x).cell? ⟨bT, 0, none⟩ = some u0 ∧ (put3 bT u0 u1 u2 x).cell? ⟨bT, 1, none⟩ = some u1 ∧ (put3 bT u0 u1 u2 x).cell? ⟨bT, 2, none⟩ = some u2 := by
  have n01 : (⟨bT, 0, none⟩ : Addr) ≠ ⟨bT, 1, none⟩ := by simp
  have n02 : (⟨bT, 0, none⟩ : Addr) ≠ ⟨bT, 2, none⟩ := by simp
  have n12 : (⟨bT, 1, none⟩ : Addr) ≠ ⟨bT, 2, none⟩ := by simp
  have g1 : (x.setCell ⟨bT, 0, none⟩ u0).cell? ⟨bT, 1, none⟩ = some c1 := by rw [World.cell?_setCell_other _ _ _ _ n01]; exact h1
  have g2 : ((x.setCell ⟨bT, 0, none⟩ u0).setCell ⟨bT, 1, none⟩ u1).cell? ⟨bT, 2, none⟩ = some c2 := by rw [World.cell?_setCell_other _ _ _ _ n12, World.cell?_setCell_other _ _ _ _ n02]; exact h2
  unfold put3
  refine ⟨?_, ?_, World.cell?_setCell_same _ _ _ g2⟩
  · rw [World.cell?_setCell_other _ _ _ _ n02.symm, World.cell?_setCell_other _ _ _ _ n01.symm]; exact World.cell?_setCell_same _ _ _ h0
  · rw [World.cell?_setCell_other _ _ _ _ n12.symm]; exact World.cell?_setCell_same _ _ _ g1
theorem put3_frozen (bT : Nat) (u0 u1 u2 : Value) (x : World) (a : Addr) : (put3 bT u0 u1 u2 x).frozen? a = x.frozen? a := by
  unfold put3
  rw [World.frozen?_setCell, World.frozen?_setCell, World.frozen?_setCell]
theorem put3_own {bT : Nat} {u0 u1 u2 : Value} {x : World} {e : TypeId} {v : Value} {n : Nat} {xs : List Value} (h : x.ownsRow (bT + 1) e 1 v n xs) : (put3 bT u0 u1 u2 x).ownsRow (bT + 1) e 1 v n xs := by
  unfold put3
  exact ownsRow_setCell_below (ownsRow_setCell_below (ownsRow_setCell_below h (by show bT < bT + 1; omega) _) (by show bT < bT + 1; omega) _) (by show bT < bT + 1; omega) _
theorem put3_below {B bT : Nat} {u0 u1 u2 : Value} {w x : World} (h : Below B w x) (hB : B ≤ bT) : Below B w (put3 bT u0 u1 u2 x) := by
  unfold put3
  exact ((h.setCell hB _).setCell hB _).setCell hB _

/-- One text of a reading, as the reference takes it: a count, and so many bytes. -/
theorem reads_step {j : Nat} {t' : ByteArray} {us' : List ByteArray} {fin : ByteArray} {e : Int} (h : Reads (j + 1) t' us' fin e) :
    ∃ n2 t2 b2, RdCount 4096 t' n2 t2 b2 ∧ ((b2 ≠ 0 ∧ e = b2) ∨ (b2 = 0 ∧ (t2.size : Int) < n2 ∧ e = 4) ∨
      (b2 = 0 ∧ ∃ (q : Nat) (us2 : List ByteArray), n2 = q ∧ q ≤ t2.size ∧ q ≤ 4096 ∧ us' = t2.extract 0 q :: us2 ∧ Reads j (t2.extract q t2.size) us2 fin e)) := by
  cases h with
  | bad _ _ x t b hx hb =>
    obtain ⟨n0, t0, b0, hr, ⟨h1, _, _, h2⟩ | ⟨h0, h1, _, _, h2⟩ | ⟨_, _, _, _, h2⟩⟩ := hx
    · exact ⟨n0, t0, b0, hr, .inl ⟨h1, h2⟩⟩
    · exact ⟨n0, t0, b0, hr, .inr (.inl ⟨h0, h1, h2⟩)⟩
    · exact absurd h2 hb
  | more _ _ x t us _ _ hx hr =>
    obtain ⟨n, t0, hc, hn, hn', rfl, rfl⟩ := rdText_good hx
    exact ⟨n, t0, 0, hc, .inr (.inr ⟨rfl, n, us, rfl, hn, hn', rfl, hr⟩)⟩

/-- One text more behind a row of the call's own, beside a struct's block. -/
theorem str_snocT {bT B : Nat} {e : TypeId} {v v' : Value} {l : List ByteArray} (t : ByteArray) {w X w1 : World} {o : Obj} {c0 c1 c2 : Value} (hBb : B ≤ bT) (hs : bT < X.heap.size)
    (hown : X.ownsRow (bT + 1) e 1 v l.length (scells l)) (hnx : Below B w X)
    (h0 : X.cell? ⟨bT, 0, none⟩ = some c0) (h1 : X.cell? ⟨bT, 1, none⟩ = some c1) (h2 : X.cell? ⟨bT, 2, none⟩ = some c2) (f0 : X.frozen? ⟨bT, 0, none⟩ = false) (f1 : X.frozen? ⟨bT, 1, none⟩ = false) (f2 : X.frozen? ⟨bT, 2, none⟩ = false)
    (hown' : w1.ownsRow (bT + 1) e 1 v' (l.length + 1) (scells l ++ [.string t])) (hgrow : (X.alloc o).grownBy w1 v.ownBlock) :
    (w1.ownsRow (bT + 1) e 1 v' (l ++ [t]).length (scells (l ++ [t])) ∧ Below B w w1 ∧ bT < w1.heap.size) ∧
    w1.cell? ⟨bT, 0, none⟩ = some c0 ∧ w1.cell? ⟨bT, 1, none⟩ = some c1 ∧ w1.cell? ⟨bT, 2, none⟩ = some c2 ∧ w1.frozen? ⟨bT, 0, none⟩ = false ∧ w1.frozen? ⟨bT, 1, none⟩ = false ∧ w1.frozen? ⟨bT, 2, none⟩ = false := by
  have hz := hgrow.size
  have hs' : (X.alloc o).heap.size = X.heap.size + 1 := by simp
  have hne : some bT ≠ v.ownBlock := fun h => by have := (hown.lt bT h.symm).1; omega
  have hb : w1.heap[bT]? = X.heap[bT]? := (hgrow.block bT (by omega) hne).trans (Below.heap_alloc _ _ _ hs)
  have hc : ∀ j, w1.cell? ⟨bT, j, none⟩ = X.cell? ⟨bT, j, none⟩ := fun j => World.cell?_of_block (a := ⟨bT, j, none⟩) hb
  have hf : ∀ j, w1.frozen? ⟨bT, j, none⟩ = X.frozen? ⟨bT, j, none⟩ := fun j => World.frozen?_of_block (a := ⟨bT, j, none⟩) hb
  refine ⟨⟨by rw [scells_snoc]; simpa using hown', (hnx.alloc (by omega) o).grown hgrow (by omega) (fun j hj => by have := (hown.lt j hj).1; omega), by omega⟩, ?_, ?_, ?_, ?_, ?_, ?_⟩
  · rw [hc]; exact h0
  · rw [hc]; exact h1
  · rw [hc]; exact h2
  · rw [hf]; exact f0
  · rw [hf]; exact f1
  · rw [hf]; exact f2

/-- What holds at the head of the reference's loop. -/
def RefFilling (bT m : Nat) (us : List ByteArray) (fin : ByteArray) (e : Int) (z : Nat) (w : World) (rest out i : Value) (wr : World) : Prop :=
  ∃ (k : Nat) (l : List ByteArray) (t' : ByteArray) (us' : List ByteArray), k ≤ m ∧ i = .int .i64 k ∧ rest = .string t' ∧ t'.size ≤ z ∧ l.length = k ∧ l ++ us' = us ∧ Reads (m - k) t' us' fin e ∧
    wr.ownsRow (bT + 1) 9 1 out l.length (scells l) ∧ TBlock bT wr ∧ Below w.heap.size w wr ∧ bT < wr.heap.size

set_option maxHeartbeats 4000000 in
set_option maxRecDepth 100000 in
theorem RefReadRow_good {s : ByteArray} {m : Nat} {t : ByteArray} (h : RdCount 256 s m t 0) (hm : m ≤ 256) (hs : s.size ≤ maxLen) {us : List ByteArray} {fin : ByteArray} {e : Int} (hr : Reads m t us fin e)
    {ts : List ByteArray} {b : Int} (hb : (e ≠ 0 ∧ ts = [] ∧ b = e) ∨ (e = 0 ∧ 0 < fin.size ∧ ts = [] ∧ b = 5) ∨ (e = 0 ∧ fin.size = 0 ∧ ts = us ∧ b = 0)) (w : World) :
    Calls Try.prog 20 #[.string s] w (RowI ts b w) := by
  obtain ⟨i0, hi, hz0, hz1, hz2⟩ := info_parts Try.info9
  have HR := Lib.hid (fun W => refCount_any h hs W)
  have hts := rdCount_size h
  have HRS := Lib.hid hr
  have HB := Lib.hid hb
  have HS := Lib.hid hs
  clear h hr hb hs
  go_enter Try.func20, Try.ntmps20
  go_wp2_with (go_at_call 35; (with_reducible refine (HR.out _).mono ?_); rintro e x1 ⟨rfl, hx1⟩)
  go_loopw [0, 6, 7] (fun rest out i wr => RefFilling x1.heap.size m us fin e s.size w rest out i wr) (fun _ _ i _ => m - (intOf i).toNat)
  case atStart =>
    have hx1s := hx1.size
    exact ⟨0, [], t, us, Nat.zero_le _, rfl, rfl, hts, rfl, rfl, HRS.out, made_two _ _ _, tblock_new _ _ _ _ _ _, (hx1.alloc hx1s _).alloc (by simp; omega) _, by simp; omega⟩
  case round =>
    obtain ⟨k, l, t', us', hk, rfl, rfl, ht', hlk, hlu, hrs, hown, htb, hbe, hbT⟩ := hrel
    have hx1s := hx1.size
    have HX := Lib.hid hx1
    have HTB := Lib.hid htb
    have HLU := Lib.hid hlu
    have HBE := Lib.hid hbe
    have HO := Lib.hid hown
    have hlk' : l.length ≤ k := by omega
    have HLK := Lib.hid hlk
    clear hx1 hlu hbe hlk htb hown
    by_cases hlt : k < m
    · obtain ⟨j, hj⟩ : ∃ j, m - k = j + 1 := ⟨m - k - 1, by omega⟩
      rw [hj] at hrs
      obtain ⟨n2, t2, b2, hc2, hcase⟩ := reads_step hrs
      have ht2 := rdCount_size hc2
      have HT := Lib.hid (fun W => refCount_any hc2 (Nat.le_trans ht' HS.out) W)
      go_wp2_with fail
      (with_reducible refine (HT.out _).mono ?_)
      rintro e2 x2 ⟨rfl, hx2⟩
      have tb2 := tblock_below HTB.out hx2 hbT
      have hs2 := hx2.size
      obtain ⟨c0, c1, c2, h0, h1, h2, f0, f1, f2⟩ := tb2
      have S := stored3 (u0 := .int .i64 n2) (u1 := .string t2) (u2 := .int .i64 b2) h0 h1 h2
      have g0 := (put3_frozen x1.heap.size (.int .i64 n2) (.string t2) (.int .i64 b2) x2 ⟨x1.heap.size, 0, none⟩).trans f0
      have g1 := (put3_frozen x1.heap.size (.int .i64 n2) (.string t2) (.int .i64 b2) x2 ⟨x1.heap.size, 1, none⟩).trans f1
      have g2 := (put3_frozen x1.heap.size (.int .i64 n2) (.string t2) (.int .i64 b2) x2 ⟨x1.heap.size, 2, none⟩).trans f2
      have hown3 : (put3 x1.heap.size (.int .i64 n2) (.string t2) (.int .i64 b2) x2).ownsRow (x1.heap.size + 1) 9 1 u6 l.length (scells l) := put3_own (own_below HO.out hx2)
      have hbe3 : Below w.heap.size w (put3 x1.heap.size (.int .i64 n2) (.string t2) (.int .i64 b2) x2) := put3_below (below_trans HBE.out hx2) hx1s
      have hs3 : x1.heap.size < (put3 x1.heap.size (.int .i64 n2) (.string t2) (.int .i64 b2) x2).heap.size := by rw [put3_size]; omega
      have HS3 := Lib.hid S
      have HO3 := Lib.hid hown3
      have HB3 := Lib.hid hbe3
      clear S hown3 hbe3
      have HG := Lib.hid (And.intro g0 (And.intro g1 g2))
      clear g0 g1 g2
      go_upto_region 11 with (fail)
      clear h0 h1 h2 f0 f1 f2
      show Code.wp _ _ _ _ (put3 x1.heap.size (.int .i64 n2) (.string t2) (.int .i64 b2) x2)
      generalize put3 x1.heap.size (.int .i64 n2) (.string t2) (.int .i64 b2) x2 = X at HS3 HO3 HB3 HG hs3 ⊢
      obtain ⟨k0, k1, k2⟩ := HS3.out
      have hsm : t2.size ≤ 9223372036854775807 := by have := HS.out; unfold maxLen at this; omega
      rcases hcase with ⟨hb2, he⟩ | ⟨rfl, hlong, he⟩ | ⟨rfl, q, us2, rfl, hq1, hq2, hu, hr2⟩
      · have hne : (b2 != 0) = true := by simpa using hb2
        have HE := Lib.hid he
        have HN := Lib.hid hb2
        clear he hb2 hrs hj hc2
        go_wp2_with fail
        go_quiet (fail)
        go_wp2
        go_ret2
        rcases HB.out with ⟨_, rfl, rfl⟩ | ⟨h, _⟩ | ⟨h, _⟩
        · rw [HE.out]
          exact ⟨_, rfl, World.ownsRow_nil _ _ _ _, below_trans HB3.out (bel_drewN _ _)⟩
        · exact absurd (HE.out.symm.trans h) HN.out
        · exact absurd (HE.out.symm.trans h) HN.out
      · have HE := Lib.hid he
        clear he hrs hj hc2
        go_wp2_with fail
        go_ret2
        rcases HB.out with ⟨_, rfl, rfl⟩ | ⟨h, _⟩ | ⟨h, _⟩
        · rw [HE.out]
          exact ⟨_, rfl, World.ownsRow_nil _ _ _ _, HB3.out⟩
        · have := HE.out; omega
        · have := HE.out; omega
      · have HU := Lib.hid hu
        have HR2 := Lib.hid hr2
        have HJ := Lib.hid (show m - (k + 1) = j by omega)
        clear hu hr2 hrs hj hc2
        obtain ⟨f0, f1, f2⟩ := HG.out
        go_wp2_with (at_builtin; refine wpList_append_own _ rfl _ _ 39 rfl (x1.heap.size + 1) 9 i0 (.string ⟨#[]⟩) 1 16 Try.underlying39 hi hz0 hz1 hz2 rfl (by decide) _ _ _ rfl (HO3.out.alloc _) ⟨X.heap.size, 0, none⟩ 1 1 [.string (t2.extract 0 q)] rfl rfl ?c1 ?c2 ?c3 ?c4 ?c5 ?_)
        case c1 =>
          intro j y hj
          match j, hj with
          | 0, hj => simp at hj; subst hj; simp [Addr.add]
        case c2 => intro y hy; simp at hy; subst hy; rfl
        case c3 => unfold maxLen; omega
        case c4 => omega
        case c5 => simp; omega
        intro v' w1 hown' hgrow _
        have R := str_snocT (t2.extract 0 q) hx1s hs3 HO3.out HB3.out k0 k1 k2 f0 f1 f2 hown' hgrow
        obtain ⟨R1, k0', k1', k2', f0', f1', f2'⟩ := R
        have HR1 := Lib.hid R1
        clear hown' hgrow R1 k0 k1 k2 f0 f1 f2
        go_wp2
        go_roundw
        case rel =>
          exact ⟨k + 1, l ++ [t2.extract 0 q], t2.extract q t2.size, us2, by omega, v_int (by omega), rfl, by rw [ByteArray.size_extract]; omega, by simp; exact HLK.out, by rw [List.append_assoc, ← HLU.out, HU.out]; rfl, by rw [HJ.out]; exact HR2.out, HR1.out.1, ⟨_, _, _, k0', k1', k2', f0', f1', f2'⟩, HR1.out.2.1, HR1.out.2.2⟩
        case measure => simp [intOf]; omega
    · obtain rfl : m = k := by omega
      rw [Nat.sub_self] at hrs
      cases hrs with
      | done =>
        rw [List.append_nil] at HLU
        by_cases hf : 0 < fin.size
        · go_wp2_with fail
          go_ret2
          rcases HB.out with ⟨h, _⟩ | ⟨_, _, rfl, rfl⟩ | ⟨_, h, _⟩
          · exact absurd rfl h
          · exact ⟨_, rfl, World.ownsRow_nil _ _ _ _, HBE.out⟩
          · omega
        · go_wp2_with fail
          go_ret2
          rcases HB.out with ⟨h, _⟩ | ⟨_, h, _⟩ | ⟨_, _, rfl, rfl⟩
          · exact absurd rfl h
          · omega
          · exact ⟨_, rfl, by rw [← HLU.out]; exact own_base HO.out (by omega), HBE.out⟩

/-- A text is read as a row by both alike. -/
theorem ReadRow_rd {s : ByteArray} {ts : List ByteArray} {b : Int} (h : RdRow s ts b) (hs : s.size ≤ maxLen) (w : World) : Calls Try.prog 19 #[.string s] w (RowI ts b w) := by
  obtain ⟨n, t, b1, hc, ⟨h1, rfl, rfl⟩ | ⟨rfl, us, fin, e, hr, hb⟩⟩ := h
  · exact ReadRow_bad hc h1 hs w
  · obtain ⟨_, h2, h3⟩ := rdCount_good hc
    obtain ⟨m, rfl⟩ : ∃ m : Nat, n = m := ⟨n.toNat, by omega⟩
    exact ReadRow_good hc (by omega) hs hr hb w
theorem RefReadRow_rd {s : ByteArray} {ts : List ByteArray} {b : Int} (h : RdRow s ts b) (hs : s.size ≤ maxLen) (w : World) : Calls Try.prog 20 #[.string s] w (RowI ts b w) := by
  obtain ⟨n, t, b1, hc, ⟨h1, rfl, rfl⟩ | ⟨rfl, us, fin, e, hr, hb⟩⟩ := h
  · exact RefReadRow_bad hc h1 hs w
  · obtain ⟨_, h2, h3⟩ := rdCount_good hc
    obtain ⟨m, rfl⟩ : ∃ m : Nat, n = m := ⟨n.toNat, by omega⟩
    exact RefReadRow_good hc (by omega) hs hr hb w
end Go.Proofs.Ytlhbeckimhfbfaa
