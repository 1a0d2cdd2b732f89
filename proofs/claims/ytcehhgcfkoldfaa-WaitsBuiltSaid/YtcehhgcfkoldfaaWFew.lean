/-
  The law's own cut and few.
-/
import Derived.Test.YtcehhgcfkoldfaaWFind
import Derived.Test.YtcehhgcfkoldfaaWQ
import Derived.Test.YtcehhgcfkoldfaaGCut
namespace Go.Proofs.Ytcehhgcfkoldfaa.Waits
open Go.ChangeShapes Go.WideShapes Go.ChangeAt Go.RowKit Go.Shelf Go.Lib
open Go.Proofs.Ytcehhgcfkoldfaa.Goods
open Go.Proofs.Ytcehhgcfkoldfaa.Queue (Wt ltB wv QRow)

/-- A line with a short name is returned. -/
def CutE (x : Ln) (w : World) (e : Ending) (w' : World) : Prop := ∃ s : ByteArray, e = .returned (.agg #[.string s, .int .i64 x.w.c, .int .i64 x.w.s, .int .i64 x.w.o]) ∧ s.size ≤ 18 ∧ Below w.heap.size w w'
set_option maxRecDepth 100000 in
set_option maxHeartbeats 1000000 in
theorem cut_any (x : Ln) (hx : x.k.size ≤ 9223372036854775807) (w : World) : Calls Try.prog 8 #[lv x] w (CutE x w) := by
  obtain ⟨q, hq, hqt, hq18⟩ : ∃ q : Nat, (if (18 : Int) < (x.k.size : Int) then (18 : Int) else (x.k.size : Int)) = q ∧ q ≤ x.k.size ∧ q ≤ 18 := ⟨min x.k.size 18, by split <;> omega, by omega, by omega⟩
  have i0 : (0 : Int) ≤ (q : Int) := by omega
  have i1 : (q : Int) ≤ (x.k.size : Int) := by omega
  obtain ⟨s, hs, hs18⟩ : ∃ s, x.k.extract 0 q = s ∧ s.size ≤ 18 := ⟨_, rfl, by rw [ByteArray.size_extract]; omega⟩
  have HS18 := Lib.hid hs18
  have hb2 := two_al w (.cells #[.string x.k, .int .i64 x.w.c, .int .i64 x.w.s, .int .i64 x.w.o] 26) (.cells #[.string ⟨#[]⟩, .int .i64 0, .int .i64 0, .int .i64 0] 26)
  have hbx := (Box.made w (lcs x) 26).below (al (w.alloc (.cells (lcs x).toArray 26)) (.cells #[.string ⟨#[]⟩, .int .i64 0, .int .i64 0, .int .i64 0] 26))
  have hby := Box.made (w.alloc (.cells #[.string x.k, .int .i64 x.w.c, .int .i64 x.w.s, .int .i64 x.w.o] 26)) (lcs noL) 26
  simp only [World.size_alloc] at hby
  have HB := Lib.hid hb2
  have HX : Hid (Box w.heap.size (lcs x) ((w.alloc (.cells #[.string x.k, .int .i64 x.w.c, .int .i64 x.w.s, .int .i64 x.w.o] 26)).alloc (.cells #[.string ⟨#[]⟩, .int .i64 0, .int .i64 0, .int .i64 0] 26))) := Lib.hid hbx
  have HY : Hid (Box (w.heap.size + 1) (lcs noL) ((w.alloc (.cells #[.string x.k, .int .i64 x.w.c, .int .i64 x.w.s, .int .i64 x.w.o] 26)).alloc (.cells #[.string ⟨#[]⟩, .int .i64 0, .int .i64 0, .int .i64 0] 26))) := Lib.hid hby
  clear hb2 hbx hby hs18
  unfold lv
  go_enter Try.func8, Try.ntmps8
  go_upto_region 1 with (fail)
  generalize (w.alloc (.cells #[.string x.k, .int .i64 x.w.c, .int .i64 x.w.s, .int .i64 x.w.o] 26)).alloc (.cells #[.string ⟨#[]⟩, .int .i64 0, .int .i64 0, .int .i64 0] 26) = W at *
  obtain ⟨x0, x1, x2, x3⟩ := box4 HX.out
  obtain ⟨a0, a1, a2, a3⟩ := free4 HX.out
  obtain ⟨y0, y1, y2, y3⟩ := box4 HY.out
  obtain ⟨z0, z1, z2, z3⟩ := free4 HY.out
  have hs1 := HX.out.1
  have hs2 := HY.out.1
  have HE := Lib.hid (below_four (b := w.heap.size + 1) (.string s) (.int .i64 x.w.c) (.int .i64 x.w.s) (.int .i64 x.w.o) (HB.out.setCell (p := ⟨w.heap.size, 0, none⟩) (Nat.le_refl _) (.string s)) (by omega))
  go_wp2_with fail
  exact bodyPost_ret (by simp [results, Try.results8, go_sem, y0, y1, y2, y3]) rfl ⟨s, rfl, HS18.out, HE.out⟩

/-- A row of the call's own is not where something older is stored. -/
theorem OwnL.far {B g : Nat} {v : Value} {l : List Ln} {w : World} (h : OwnL B v l w) (hg : g < B) (j : Nat) (u : Value) : OwnL B v l (w.setCell ⟨g, j, none⟩ u) := by
  obtain ⟨h0, h1 | ⟨g', cap, cur, hv, hg', hh, hrest⟩⟩ := h
  · exact ⟨h0, .inl h1⟩
  · have hne : g' ≠ g := by omega
    exact ⟨h0, .inr ⟨g', cap, cur, hv, hg', (heap_setCell_other _ ⟨g, j, none⟩ _ _ hne).trans hh, hrest⟩⟩
theorem Box.four {b : Nat} {c0 c1 c2 c3 : Value} {w : World} (h : Box b [c0, c1, c2, c3] w) (u0 u1 u2 u3 : Value) :
    Box b [u0, u1, u2, u3] ((((w.setCell ⟨b, 0, none⟩ u0).setCell ⟨b, 1, none⟩ u1).setCell ⟨b, 2, none⟩ u2).setCell ⟨b, 3, none⟩ u3) :=
  Goods.Box.put (Goods.Box.put (Goods.Box.put (Goods.Box.put h 0 u0 (by simp)) 1 u1 (by simp)) 2 u2 (by simp)) 3 u3 (by simp)
/-- What came in; what few makes of it. -/
def ArgL (w : World) (v : Value) : Prop := ∃ l, LRow w v l ∧ ∀ x ∈ l, x.k.size ≤ 9223372036854775807
def Tiny (l : List Ln) : Prop := l.length ≤ 34 ∧ ∀ x ∈ l, x.k.size ≤ 18
theorem Tiny.brief {l : List Ln} (h : Tiny l) : Brief l := ⟨by have := h.1; omega, fun x hx => by have := h.2 x hx; omega⟩
def FewE (w : World) (e : Ending) (w' : World) : Prop := ∃ v l, e = .returned v ∧ Tiny l ∧ OwnL w.heap.size v l w' ∧ Below w.heap.size w w'
set_option maxRecDepth 100000 in
set_option maxHeartbeats 4000000 in
theorem few_any {v : Value} {w : World} (h : ArgL w v) : Calls Try.prog 7 #[v] w (FewE w) := by
  obtain ⟨l0, h, hs⟩ := h
  obtain ⟨a, cap, rfl⟩ := h.slice
  obtain ⟨hca1, hca2⟩ := h.cap.2
  have HAC : Hid (∀ W, Below w.heap.size w W → ∀ q, q < l0.length → ∃ (b off : Nat) (y : Ln), a = some ⟨b, off, none⟩ ∧ b < W.heap.size ∧ Four W b (off + q * 4) y ∧ y.k.size ≤ 9223372036854775807) := Lib.hid fun W hW q hq => by
    obtain ⟨b, off, e, _, _, hb, hc⟩ := (h.below hW).at hq
    exact ⟨b, off, _, e, hb, hc, hs _ (List.getElem_mem hq)⟩
  obtain ⟨n, hn, hnl, hn10⟩ : ∃ n : Nat, min (l0.length : Int) 34 = n ∧ n ≤ l0.length ∧ n ≤ 34 := ⟨min l0.length 34, by omega, by omega, by omega⟩
  clear h hs
  generalize l0.length = len at *
  go_enter Try.func7, Try.ntmps7
  go_upto_region 2 with (fail)
  go_cut [10, 11, 12] from 6 to 12 (fun v z i wx => v = .slice a n cap ∧ z = .int .i64 n ∧ i = .int .i64 0 ∧ wx = w)
  case first =>
    have hc : (34 < len ∧ n = 34) ∨ (len ≤ 34 ∧ n = len) := by omega
    rcases hc with ⟨hc, rfl⟩ | ⟨hc, rfl⟩
    all_goals (
      clear hn
      go_wp2_with fail
      go_meet
      exact ⟨rfl, rfl, rfl, rfl⟩)
  case rest =>
  obtain ⟨rfl, rfl, rfl, rfl⟩ := hcut
  go_wp2_with fail
  go_loopw [3, 5, 12] (fun u _ i wr => ∃ l : List Ln, l.length ≤ n ∧ i = .int .i64 l.length ∧ (∀ x ∈ l, x.k.size ≤ 18) ∧ OwnL wc.heap.size u l wr ∧ Below wc.heap.size wc wr) (fun _ _ i _ => n - (RowKit.intOf i).toNat)
  case atStart => exact ⟨[], Nat.zero_le _, rfl, by simp, OwnL.nil _ _, Below.refl _ _⟩
  case round =>
    clear hn
    obtain ⟨l, hsn, rfl, hall, ho, hbe⟩ := hrel
    obtain ⟨ua, un, uc, rfl⟩ : ∃ a n c, u3 = .slice a n c := (by obtain ⟨a', c', e⟩ := ho.row.slice; exact ⟨a', _, c', e⟩)
    have HO := Lib.hid ho
    have HB := Lib.hid hbe
    have HAL := Lib.hid hall
    clear ho hbe hall
    by_cases hlt : l.length < n
    · obtain ⟨b, off, y, rfl, hb, ⟨k0, k1, k2, k3⟩, hsz0⟩ := HAC.out _ HB.out l.length (by omega)
      have hba := al wr (.cells #[.string y.k, .int .i64 y.w.c, .int .i64 y.w.s, .int .i64 y.w.o] 26)
      have HB1 := Lib.hid (below_trans HB.out hba)
      have HO1 := Lib.hid (HO.out.below hba)
      have hc := fun W => cut_any y hsz0 W
      unfold lv CutE at hc
      have HC := Lib.hid hc
      clear hba hc hsz0
      go_wp2_with fail
      (with_reducible refine (HC.out _).mono ?_)
      rintro e w1 ⟨s, rfl, hs18, hz⟩
      have HS18 := Lib.hid hs18
      have hbb := al w1 (.cells #[.string s, .int .i64 y.w.c, .int .i64 y.w.s, .int .i64 y.w.o] 26)
      have HONE : Hid (LRow (w1.alloc (.cells #[.string s, .int .i64 y.w.c, .int .i64 y.w.s, .int .i64 y.w.o] 26)) (.slice (some ⟨w1.heap.size, 0, none⟩) 1 1) [⟨s, y.w⟩]) := Lib.hid (LRow.one w1 ⟨s, y.w⟩)
      have HO2 := Lib.hid ((HO1.out.below hz).below hbb)
      have HB2 := Lib.hid (below_trans (below_trans HB1.out hz) hbb)
      have hsw := HB2.out.size
      clear hbb hs18 hz
      go_wp2_with (at_builtin; refine wpList_append_L rfl _ _ rfl wc.heap.size _ l rfl HO2.out _ [⟨s, y.w⟩] rfl HONE.out (by omega) (by simp) hsw ?_)
      intro v' w2 hown hbel _
      obtain ⟨va, vn, vc, rfl⟩ : ∃ a n c, v' = .slice a n c := (by obtain ⟨a', c', e⟩ := hown.row.slice; exact ⟨a', _, c', e⟩)
      have HR := Lib.hid (And.intro hown (HB2.out.trans hbel))
      clear hown hbel
      go_wp2_with fail
      go_roundw
      case rel =>
        refine ⟨l ++ [⟨s, y.w⟩], by simp; omega, by simp, ?_, HR.out.1, HR.out.2⟩
        intro x hx
        rcases List.mem_append.1 hx with h | h
        · exact HAL.out x h
        · obtain rfl := List.mem_singleton.1 h
          exact HS18.out
      case measure => simp [RowKit.intOf]; omega
    · go_wp2_with fail
      go_ret
      exact ⟨_, l, rfl, ⟨by omega, HAL.out⟩, HO.out, HB.out⟩
end Go.Proofs.Ytcehhgcfkoldfaa.Waits
