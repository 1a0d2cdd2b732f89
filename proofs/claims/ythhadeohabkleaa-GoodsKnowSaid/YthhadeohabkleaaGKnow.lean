/-
  Contracts of package goods: Know, Rule, For.
-/
import Derived.Test.YthhadeohabkleaaGPut
namespace Go.Proofs.Ythhadeohabkleaa.Goods
open Go.ChangeShapes Go.WideShapes Go.ChangeAt Go.RowKit Go.Shelf

theorem Box.two {b : Nat} {c0 c1 : Value} {w : World} (h : Box b [c0, c1] w) (u0 u1 : Value) : Box b [u0, u1] ((w.setCell ⟨b, 0, none⟩ u0).setCell ⟨b, 1, none⟩ u1) :=
  (h.put 0 u0 (by simp)).put 1 u1 (by simp)
theorem Box.z2 {b : Nat} {c0 c1 : Value} {w : World} (h : Box b [c0, c1] w) : w.frozen? ⟨b, 0, none⟩ = false ∧ w.frozen? ⟨b, 1, none⟩ = false := ⟨(h.2 0 _ rfl).2, (h.2 1 _ rfl).2⟩
theorem below_two {W w : World} {b : Nat} (u0 u1 : Value) (h : Below W.heap.size W w) (hb : W.heap.size ≤ b) : Below W.heap.size W ((w.setCell ⟨b, 0, none⟩ u0).setCell ⟨b, 1, none⟩ u1) := (h.setCell hb u0).setCell hb u1
/-- Goods and an error are returned; nothing that lay has turned. -/
def GoodsE (s : List ByteArray) (l : List Sb) (z : Int) (w : World) (e : Ending) (w' : World) : Prop := ∃ v u, e = .returned (.tuple #[.agg #[v, u], .int .i64 z]) ∧ GGood w' v u s l ∧ Below w.heap.size w w'
theorem none_good (w : World) : GGood w (.slice none 0 0) (.slice none 0 0) [] [] := ⟨.nil _, .nil _⟩
/-- A store into a block of its own leaves what lay elsewhere. -/
theorem TRow.apart {w : World} {b j : Nat} {v u : Value} {l : List ByteArray} (h : TRow w v l) (hb : ∀ g, v.ownBlock = some g → g ≠ b) : TRow (w.setCell ⟨b, j, none⟩ u) v l := by
  obtain ⟨a, cap, e, h1, h2, h3⟩ := h
  refine ⟨a, cap, e, h1, h2, fun h0 => ?_⟩
  obtain ⟨g, off, ea, hbl, hc⟩ := h3 h0
  refine ⟨g, off, ea, by simpa using hbl, fun i hi => ?_⟩
  rw [World.cell?_setCell_other _ _ _ _ (by intro hh; injection hh with hh; exact hb g (by rw [e, ea]; rfl) hh.symm)]
  exact hc i hi
theorem GRow.apart {w : World} {b j : Nat} {v u : Value} {l : List Sb} (h : GRow w v l) (hb : ∀ g, v.ownBlock = some g → g ≠ b) : GRow (w.setCell ⟨b, j, none⟩ u) v l := by
  obtain ⟨a, cap, e, h1, h2, h3⟩ := h
  refine ⟨a, cap, e, h1, h2, fun h0 => ?_⟩
  obtain ⟨g, off, ea, hbl, hc⟩ := h3 h0
  refine ⟨g, off, ea, by simpa using hbl, fun i hi => ?_⟩
  have ne : ∀ k, (⟨b, j, none⟩ : Addr) ≠ ⟨g, k, none⟩ := fun k hh => by injection hh with hh; exact hb g (by rw [e, ea]; rfl) hh.symm
  obtain ⟨k0, k1, k2, k3, k4⟩ := hc i hi
  exact ⟨(World.cell?_setCell_other _ _ _ _ (ne _)).trans k0, (World.cell?_setCell_other _ _ _ _ (ne _)).trans k1, (World.cell?_setCell_other _ _ _ _ (ne _)).trans k2, (World.cell?_setCell_other _ _ _ _ (ne _)).trans k3, (World.cell?_setCell_other _ _ _ _ (ne _)).trans k4⟩
theorem OwnT.far {w : World} {B b : Nat} {v : Value} {l : List ByteArray} (h : OwnT B v l w) (hb : b < B) : ∀ g, v.ownBlock = some g → g ≠ b := fun g hg => by have := (World.ownsRow.lt h g hg).1; omega
theorem OwnG.far {w : World} {B b : Nat} {v : Value} {l : List Sb} (h : OwnG B v l w) (hb : b < B) : ∀ g, v.ownBlock = some g → g ≠ b := fun g hg => by have := (World.ownsRow.lt h g hg).1; omega

/-- The error of Know, and what it makes. -/
def knowE (s : List ByteArray) (l : List Sb) (k : ByteArray) : Int := if (rightB s l && nameB k) = false then 1 else if hasB s k = true then 9 else if s.length = 8 then 7 else 0
theorem know_ways (s : List ByteArray) (l : List Sb) (k : ByteArray) : (rightB s l = false ∧ knowE s l k = 1) ∨ (rightB s l = true ∧ nameB k = false ∧ knowE s l k = 1) ∨ (rightB s l = true ∧ nameB k = true ∧ hasB s k = true ∧ knowE s l k = 9) ∨ (rightB s l = true ∧ nameB k = true ∧ hasB s k = false ∧ s.length = 8 ∧ knowE s l k = 7) ∨ (rightB s l = true ∧ nameB k = true ∧ hasB s k = false ∧ s.length ≠ 8 ∧ knowE s l k = 0) := by
  unfold knowE
  cases rightB s l <;> cases nameB k <;> cases hasB s k <;> by_cases h : s.length = 8 <;> simp [h]

set_option maxRecDepth 100000 in
set_option maxHeartbeats 4000000 in
theorem Know_no {v u : Value} {s : List ByteArray} {l : List Sb} {w : World} (h : GGood w v u s l) (hs : Short s l) (k : ByteArray) (hk : k.size ≤ 1000000) (he : knowE s l k ≠ 0) : Calls Try.prog 8 #[.agg #[v, u], .string k] w (GoodsE [] [] (knowE s l k) w) := by
  have hw := know_ways s l k
  have HR := Lib.hid (fun W (hb : Below w.heap.size w W) => Right_any (h.below hb) hs)
  have HN := Lib.hid (fun W => isName_any k hk W)
  have HC := Lib.hid (fun W (hb : Below w.heap.size w W) => Contains_any (h.1.below hb) hs.1 k)
  obtain ⟨a, cap, rfl⟩ := h.1.slice
  obtain ⟨a', cap', rfl⟩ := h.2.slice
  clear h hs
  have hba := al w (.cells #[.slice a s.length cap, .slice a' l.length cap'] 25)
  have hbb := below_trans hba (al _ (.cells #[.string k] 9))
  have hbc := below_trans hbb (al _ (.cells #[.slice none 0 0, .slice none 0 0] 25))
  have hxa := (Box.made w [.slice a s.length cap, .slice a' l.length cap'] 25).below (below_trans (al _ (.cells #[.string k] 9)) (al _ (.cells #[.slice none 0 0, .slice none 0 0] 25)))
  have hxb := (Box.made (w.alloc (.cells #[.slice a s.length cap, .slice a' l.length cap'] 25)) [.string k] 9).below (al _ (.cells #[.slice none 0 0, .slice none 0 0] 25))
  have hxc := Box.made ((w.alloc (.cells #[.slice a s.length cap, .slice a' l.length cap'] 25)).alloc (.cells #[.string k] 9)) [.slice none 0 0, .slice none 0 0] 25
  simp only [World.size_alloc] at hxb hxc
  obtain ⟨W0, hW0⟩ : ∃ W0, ((w.alloc (.cells #[.slice a s.length cap, .slice a' l.length cap'] 25)).alloc (.cells #[.string k] 9)).alloc (.cells #[.slice none 0 0, .slice none 0 0] 25) = W0 := ⟨_, rfl⟩
  have HXA : Hid (Box w.heap.size [.slice a s.length cap, .slice a' l.length cap'] W0) := Lib.hid (hW0 ▸ hxa)
  have HXB : Hid (Box (w.heap.size + 1) [.string k] W0) := Lib.hid (hW0 ▸ hxb)
  have HXC : Hid (Box (w.heap.size + 1 + 1) [.slice none 0 0, .slice none 0 0] W0) := Lib.hid (hW0 ▸ hxc)
  have HB0 : Hid (Below w.heap.size w W0) := Lib.hid (hW0 ▸ hbc)
  clear hba hbb hbc hxa hxb hxc
  generalize knowE s l k = z at *
  rcases hw with ⟨e1, rfl⟩ | ⟨e1, e2, rfl⟩ | ⟨e1, e2, e3, rfl⟩ | ⟨e1, e2, e3, e4, rfl⟩ | ⟨e1, e2, e3, e4, rfl⟩
  · rw [e1] at HR
    clear e1
    go_enter Try.func8, Try.ntmps8
    go_upto_region 1 with (fail)
    clear hW0
    obtain ⟨x0, x1⟩ := HXA.out.c2
    have hs0 := HXA.out.1
    have y0 := (HXB.out.2 0 _ rfl).1
    have hs1 := HXB.out.1
    go_wp2_with fail
    (with_reducible refine (HR.out _ HB0.out).mono ?_)
    rintro e w1 ⟨rfl, hz⟩
    have HB1 := Lib.hid (below_trans HB0.out hz)
    have HXA1 := Lib.hid (HXA.out.below hz)
    have HXB1 := Lib.hid (HXB.out.below hz)
    have HXC1 := Lib.hid (HXC.out.below hz)
    clear hz
    obtain ⟨q0, q1⟩ := HXC1.out.c2
    obtain ⟨r0, r1⟩ := HXC1.out.z2
    have hsc := HXC1.out.1
    have HE := Lib.hid (below_two (b := w.heap.size + 1 + 1) (.slice none 0 0) (.slice none 0 0) HB1.out (by omega))
    go_wp2_with fail
    exact bodyPost_ret (by simp [results, Try.results8, go_sem, q0, q1]) rfl ⟨_, _, rfl, none_good _, HE.out⟩
  · rw [e1] at HR
    rw [e2] at HN
    clear e1 e2
    go_enter Try.func8, Try.ntmps8
    go_upto_region 1 with (fail)
    clear hW0
    obtain ⟨x0, x1⟩ := HXA.out.c2
    have hs0 := HXA.out.1
    have y0 := (HXB.out.2 0 _ rfl).1
    have hs1 := HXB.out.1
    go_wp2_with fail
    (with_reducible refine (HR.out _ HB0.out).mono ?_)
    rintro e w1 ⟨rfl, hz⟩
    have HB1 := Lib.hid (below_trans HB0.out hz)
    have HXA1 := Lib.hid (HXA.out.below hz)
    have HXB1 := Lib.hid (HXB.out.below hz)
    have HXC1 := Lib.hid (HXC.out.below hz)
    clear hz
    obtain ⟨x01, x11⟩ := HXA1.out.c2
    have hs01 := HXA1.out.1
    have y01 := (HXB1.out.2 0 _ rfl).1
    have hs11 := HXB1.out.1
    go_wp2_with fail
    (with_reducible refine (HN.out _).mono ?_)
    rintro e w2 ⟨rfl, hz⟩
    have HB2 := Lib.hid (below_trans HB1.out hz)
    have HXA2 := Lib.hid (HXA1.out.below hz)
    have HXB2 := Lib.hid (HXB1.out.below hz)
    have HXC2 := Lib.hid (HXC1.out.below hz)
    clear hz
    obtain ⟨q0, q1⟩ := HXC2.out.c2
    obtain ⟨r0, r1⟩ := HXC2.out.z2
    have hsc := HXC2.out.1
    have HE := Lib.hid (below_two (b := w.heap.size + 1 + 1) (.slice none 0 0) (.slice none 0 0) HB2.out (by omega))
    go_wp2_with fail
    exact bodyPost_ret (by simp [results, Try.results8, go_sem, q0, q1]) rfl ⟨_, _, rfl, none_good _, HE.out⟩
  · rw [e1] at HR
    rw [e2] at HN
    rw [e3] at HC
    clear e1 e2 e3
    go_enter Try.func8, Try.ntmps8
    go_upto_region 1 with (fail)
    clear hW0
    obtain ⟨x0, x1⟩ := HXA.out.c2
    have hs0 := HXA.out.1
    have y0 := (HXB.out.2 0 _ rfl).1
    have hs1 := HXB.out.1
    go_wp2_with fail
    (with_reducible refine (HR.out _ HB0.out).mono ?_)
    rintro e w1 ⟨rfl, hz⟩
    have HB1 := Lib.hid (below_trans HB0.out hz)
    have HXA1 := Lib.hid (HXA.out.below hz)
    have HXB1 := Lib.hid (HXB.out.below hz)
    have HXC1 := Lib.hid (HXC.out.below hz)
    clear hz
    obtain ⟨x01, x11⟩ := HXA1.out.c2
    have hs01 := HXA1.out.1
    have y01 := (HXB1.out.2 0 _ rfl).1
    have hs11 := HXB1.out.1
    go_wp2_with fail
    (with_reducible refine (HN.out _).mono ?_)
    rintro e w2 ⟨rfl, hz⟩
    have HB2 := Lib.hid (below_trans HB1.out hz)
    have HXA2 := Lib.hid (HXA1.out.below hz)
    have HXB2 := Lib.hid (HXB1.out.below hz)
    have HXC2 := Lib.hid (HXC1.out.below hz)
    clear hz
    obtain ⟨x02, x12⟩ := HXA2.out.c2
    have hs02 := HXA2.out.1
    have y02 := (HXB2.out.2 0 _ rfl).1
    have hs12 := HXB2.out.1
    go_wp2_with fail
    (with_reducible refine (HC.out _ HB2.out).mono ?_)
    rintro e w3 ⟨rfl, hz⟩
    have HB3 := Lib.hid (below_trans HB2.out hz)
    have HXA3 := Lib.hid (HXA2.out.below hz)
    have HXB3 := Lib.hid (HXB2.out.below hz)
    have HXC3 := Lib.hid (HXC2.out.below hz)
    clear hz
    obtain ⟨q0, q1⟩ := HXC3.out.c2
    obtain ⟨r0, r1⟩ := HXC3.out.z2
    have hsc := HXC3.out.1
    have HE := Lib.hid (below_two (b := w.heap.size + 1 + 1) (.slice none 0 0) (.slice none 0 0) HB3.out (by omega))
    go_wp2_with fail
    exact bodyPost_ret (by simp [results, Try.results8, go_sem, q0, q1]) rfl ⟨_, _, rfl, none_good _, HE.out⟩
  · rw [e1] at HR
    rw [e2] at HN
    rw [e3] at HC
    have HE4 := Lib.hid e4
    clear e1 e2 e3 e4
    go_enter Try.func8, Try.ntmps8
    go_upto_region 1 with (fail)
    clear hW0
    obtain ⟨x0, x1⟩ := HXA.out.c2
    have hs0 := HXA.out.1
    have y0 := (HXB.out.2 0 _ rfl).1
    have hs1 := HXB.out.1
    go_wp2_with fail
    (with_reducible refine (HR.out _ HB0.out).mono ?_)
    rintro e w1 ⟨rfl, hz⟩
    have HB1 := Lib.hid (below_trans HB0.out hz)
    have HXA1 := Lib.hid (HXA.out.below hz)
    have HXB1 := Lib.hid (HXB.out.below hz)
    have HXC1 := Lib.hid (HXC.out.below hz)
    clear hz
    obtain ⟨x01, x11⟩ := HXA1.out.c2
    have hs01 := HXA1.out.1
    have y01 := (HXB1.out.2 0 _ rfl).1
    have hs11 := HXB1.out.1
    go_wp2_with fail
    (with_reducible refine (HN.out _).mono ?_)
    rintro e w2 ⟨rfl, hz⟩
    have HB2 := Lib.hid (below_trans HB1.out hz)
    have HXA2 := Lib.hid (HXA1.out.below hz)
    have HXB2 := Lib.hid (HXB1.out.below hz)
    have HXC2 := Lib.hid (HXC1.out.below hz)
    clear hz
    obtain ⟨x02, x12⟩ := HXA2.out.c2
    have hs02 := HXA2.out.1
    have y02 := (HXB2.out.2 0 _ rfl).1
    have hs12 := HXB2.out.1
    go_wp2_with fail
    (with_reducible refine (HC.out _ HB2.out).mono ?_)
    rintro e w3 ⟨rfl, hz⟩
    have HB3 := Lib.hid (below_trans HB2.out hz)
    have HXA3 := Lib.hid (HXA2.out.below hz)
    have HXB3 := Lib.hid (HXB2.out.below hz)
    have HXC3 := Lib.hid (HXC2.out.below hz)
    clear hz
    obtain ⟨x03, x13⟩ := HXA3.out.c2
    have hs03 := HXA3.out.1
    have y03 := (HXB3.out.2 0 _ rfl).1
    have hs13 := HXB3.out.1
    have e4 : ((s.length : Int) == 8) = true := by rw [HE4.out]; rfl
    obtain ⟨q0, q1⟩ := HXC3.out.c2
    obtain ⟨r0, r1⟩ := HXC3.out.z2
    have hsc := HXC3.out.1
    have HE := Lib.hid (below_two (b := w.heap.size + 1 + 1) (.slice none 0 0) (.slice none 0 0) HB3.out (by omega))
    go_wp2_with fail
    exact bodyPost_ret (by simp [results, Try.results8, go_sem, q0, q1]) rfl ⟨_, _, rfl, none_good _, HE.out⟩
  · exact absurd rfl he

set_option maxRecDepth 100000 in
set_option maxHeartbeats 4000000 in
theorem Know_yes {v u : Value} {s : List ByteArray} {l : List Sb} {w : World} (h : GGood w v u s l) (hs : Short s l) (k : ByteArray) (hk : k.size ≤ 1000000) (he : knowE s l k = 0) : Calls Try.prog 8 #[.agg #[v, u], .string k] w (GoodsE (putL (fun o => ltT o k) k s) l 0 w) := by
  have hw := know_ways s l k
  have HR := Lib.hid (fun W (hb : Below w.heap.size w W) => Right_any (h.below hb) hs)
  have HN := Lib.hid (fun W => isName_any k hk W)
  have HC := Lib.hid (fun W (hb : Below w.heap.size w W) => Contains_any (h.1.below hb) hs.1 k)
  have HP := Lib.hid (fun W g (hb : Below w.heap.size w W) (hg : Box g [.string k] W) => putT_any 26 (enters_of Try.func26 (by kernel_rfl) rfl) g (fun o => ltT o k) (fun x _ W' hW => Know1_any x k (hg.below hW)) (h.1.below hb) hs.1 k)
  have HD := Lib.hid (fun W (hb : Below w.heap.size w W) => CloneG_any (h.2.below hb) hs.2.1)
  have hmf := makes
  obtain ⟨a, cap, rfl⟩ := h.1.slice
  obtain ⟨a', cap', rfl⟩ := h.2.slice
  clear h hs
  have hba := al w (.cells #[.slice a s.length cap, .slice a' l.length cap'] 25)
  have hbb := below_trans hba (al _ (.cells #[.string k] 9))
  have hbc := below_trans hbb (al _ (.cells #[.slice none 0 0, .slice none 0 0] 25))
  have hxa := (Box.made w [.slice a s.length cap, .slice a' l.length cap'] 25).below (below_trans (al _ (.cells #[.string k] 9)) (al _ (.cells #[.slice none 0 0, .slice none 0 0] 25)))
  have hxb := (Box.made (w.alloc (.cells #[.slice a s.length cap, .slice a' l.length cap'] 25)) [.string k] 9).below (al _ (.cells #[.slice none 0 0, .slice none 0 0] 25))
  have hxc := Box.made ((w.alloc (.cells #[.slice a s.length cap, .slice a' l.length cap'] 25)).alloc (.cells #[.string k] 9)) [.slice none 0 0, .slice none 0 0] 25
  simp only [World.size_alloc] at hxb hxc
  obtain ⟨W0, hW0⟩ : ∃ W0, ((w.alloc (.cells #[.slice a s.length cap, .slice a' l.length cap'] 25)).alloc (.cells #[.string k] 9)).alloc (.cells #[.slice none 0 0, .slice none 0 0] 25) = W0 := ⟨_, rfl⟩
  have HXA : Hid (Box w.heap.size [.slice a s.length cap, .slice a' l.length cap'] W0) := Lib.hid (hW0 ▸ hxa)
  have HXB : Hid (Box (w.heap.size + 1) [.string k] W0) := Lib.hid (hW0 ▸ hxb)
  have HXC : Hid (Box (w.heap.size + 1 + 1) [.slice none 0 0, .slice none 0 0] W0) := Lib.hid (hW0 ▸ hxc)
  have HB0 : Hid (Below w.heap.size w W0) := Lib.hid (hW0 ▸ hbc)
  clear hba hbb hbc hxa hxb hxc
  generalize putL (fun o => ltT o k) k s = S1 at *
  generalize knowE s l k = z at *
  subst he
  rcases hw with ⟨e1, e⟩ | ⟨e1, e2, e⟩ | ⟨e1, e2, e3, e⟩ | ⟨e1, e2, e3, e4, e⟩ | ⟨e1, e2, e3, e4, _⟩
  · cases e
  · cases e
  · cases e
  · cases e
  · rw [e1] at HR
    rw [e2] at HN
    rw [e3] at HC
    have HE4 := Lib.hid e4
    clear e1 e2 e3 e4
    go_enter Try.func8, Try.ntmps8
    go_upto_region 1 with (fail)
    clear hW0
    obtain ⟨x0, x1⟩ := HXA.out.c2
    have hs0 := HXA.out.1
    have y0 := (HXB.out.2 0 _ rfl).1
    have hs1 := HXB.out.1
    go_wp2_with fail
    (with_reducible refine (HR.out _ HB0.out).mono ?_)
    rintro e w1 ⟨rfl, hz⟩
    have HB1 := Lib.hid (below_trans HB0.out hz)
    have HXA1 := Lib.hid (HXA.out.below hz)
    have HXB1 := Lib.hid (HXB.out.below hz)
    have HXC1 := Lib.hid (HXC.out.below hz)
    clear hz
    obtain ⟨x01, x11⟩ := HXA1.out.c2
    have hs01 := HXA1.out.1
    have y01 := (HXB1.out.2 0 _ rfl).1
    have hs11 := HXB1.out.1
    go_wp2_with fail
    (with_reducible refine (HN.out _).mono ?_)
    rintro e w2 ⟨rfl, hz⟩
    have HB2 := Lib.hid (below_trans HB1.out hz)
    have HXA2 := Lib.hid (HXA1.out.below hz)
    have HXB2 := Lib.hid (HXB1.out.below hz)
    have HXC2 := Lib.hid (HXC1.out.below hz)
    clear hz
    obtain ⟨x02, x12⟩ := HXA2.out.c2
    have hs02 := HXA2.out.1
    have y02 := (HXB2.out.2 0 _ rfl).1
    have hs12 := HXB2.out.1
    go_wp2_with fail
    (with_reducible refine (HC.out _ HB2.out).mono ?_)
    rintro e w3 ⟨rfl, hz⟩
    have HB3 := Lib.hid (below_trans HB2.out hz)
    have HXA3 := Lib.hid (HXA2.out.below hz)
    have HXB3 := Lib.hid (HXB2.out.below hz)
    have HXC3 := Lib.hid (HXC2.out.below hz)
    clear hz
    obtain ⟨x03, x13⟩ := HXA3.out.c2
    have hs03 := HXA3.out.1
    have y03 := (HXB3.out.2 0 _ rfl).1
    have hs13 := HXB3.out.1
    have e4 : ((s.length : Int) == 8) = false := by have := HE4.out; simpa using (by omega : ¬ ((s.length : Int) = 8))
    go_wp2_with fail
    (with_reducible refine (HP.out _ _ HB3.out HXB3.out).mono ?_)
    rintro e w4 ⟨v1, rfl, ho, hz⟩
    obtain ⟨aa4, nn4, cc4, rfl⟩ : ∃ a n c, v1 = .slice a n c := (by obtain ⟨a', c', e⟩ := ho.row.slice; exact ⟨a', _, c', e⟩)
    have HO4 := Lib.hid ho
    have HW4 := Lib.hid hz
    have HB4 := Lib.hid (below_trans HB3.out hz)
    have HXA4 := Lib.hid (HXA3.out.below hz)
    have HXB4 := Lib.hid (HXB3.out.below hz)
    have HXC4 := Lib.hid (HXC3.out.below hz)
    clear ho hz
    obtain ⟨x04, x14⟩ := HXA4.out.c2
    have hs04 := HXA4.out.1
    have y04 := (HXB4.out.2 0 _ rfl).1
    have hs14 := HXB4.out.1
    go_wp2_with fail
    (with_reducible refine (HD.out _ HB4.out).mono ?_)
    rintro e w5 ⟨v2, rfl, ho, hz⟩
    obtain ⟨aa5, nn5, cc5, rfl⟩ : ∃ a n c, v2 = .slice a n c := (by obtain ⟨a', c', e⟩ := ho.row.slice; exact ⟨a', _, c', e⟩)
    have HO5 := Lib.hid ho
    have HW5 := Lib.hid hz
    have HB5 := Lib.hid (below_trans HB4.out hz)
    have HXA5 := Lib.hid (HXA4.out.below hz)
    have HXB5 := Lib.hid (HXB4.out.below hz)
    have HXC5 := Lib.hid (HXC4.out.below hz)
    clear ho hz
    have hsz3 := HXC3.out.1
    have hfar1 := HO4.out.far hsz3
    have hsz4 := HXC4.out.1
    have hfar2 := HO5.out.far hsz4
    have hrow1 := (HO4.out.row.below HW5.out)
    have HROW := Lib.hid (fun (x0 x1 : Value) => (And.intro ((hrow1.apart (j := 0) (u := x0) hfar1).apart (j := 1) (u := x1) hfar1) ((HO5.out.row.apart (j := 0) (u := x0) hfar2).apart (j := 1) (u := x1) hfar2) : GGood _ _ _ _ _))
    clear hsz3 hsz4 hfar1 hfar2 hrow1
    obtain ⟨q0, q1⟩ := HXC5.out.c2
    obtain ⟨r0, r1⟩ := HXC5.out.z2
    have hsc := HXC5.out.1
    have HE := Lib.hid (fun x0 x1 => below_two (b := w.heap.size + 1 + 1) x0 x1 HB5.out (by omega))
    go_wp2_with fail
    exact bodyPost_ret (by simp [results, Try.results8, go_sem, q0, q1]) rfl ⟨_, _, rfl, HROW.out _ _, HE.out _ _⟩

/-- The error of Rule, and what it makes. -/
def ruleE (s : List ByteArray) (l : List Sb) (x : Sb) : Int := if (rightB s l && mayB x) = false then 1 else if amongB x s = false then 8 else if l.any (fun o => clashB o x) = true then 9 else if l.length = 16 then 7 else 0
theorem rule_ways (s : List ByteArray) (l : List Sb) (x : Sb) : (rightB s l = false ∧ ruleE s l x = 1) ∨ (rightB s l = true ∧ mayB x = false ∧ ruleE s l x = 1) ∨ (rightB s l = true ∧ mayB x = true ∧ amongB x s = false ∧ ruleE s l x = 8) ∨ (rightB s l = true ∧ mayB x = true ∧ amongB x s = true ∧ l.any (fun o => clashB o x) = true ∧ ruleE s l x = 9) ∨ (rightB s l = true ∧ mayB x = true ∧ amongB x s = true ∧ l.any (fun o => clashB o x) = false ∧ l.length = 16 ∧ ruleE s l x = 7) ∨ (rightB s l = true ∧ mayB x = true ∧ amongB x s = true ∧ l.any (fun o => clashB o x) = false ∧ l.length ≠ 16 ∧ ruleE s l x = 0) := by
  unfold ruleE
  cases rightB s l <;> cases mayB x <;> cases amongB x s <;> cases l.any (fun o => clashB o x) <;> by_cases h : l.length = 16 <;> simp [h]

set_option maxRecDepth 100000 in
set_option maxHeartbeats 4000000 in
theorem Rule_no {v u : Value} {s : List ByteArray} {l : List Sb} {w : World} (h : GGood w v u s l) (hs : Short s l) (x : Sb) (hx : small x) (he : ruleE s l x ≠ 0) : Calls Try.prog 9 #[.agg #[v, u], sv x] w (GoodsE [] [] (ruleE s l x) w) := by
  have hw := rule_ways s l x
  have HR := Lib.hid (fun W (hb : Below w.heap.size w W) => Right_any (h.below hb) hs)
  have hn := fun W => ruleMayBe_any x hx W
  have ha := fun W (hb : Below w.heap.size w W) => among_any x (h.1.below hb) hs.1
  have hc := fun W g (hb : Below w.heap.size w W) (hg : Box g (sl x) W) => ContainsFuncS_any 31 (enters_of Try.func31 (by kernel_rfl) rfl) g (fun o => clashB o x) (fun o _ W' hW => Rule1_any o x (hg.below hW)) (h.2.below hb) hs.2.1
  have hmf := makes
  obtain ⟨a, cap, rfl⟩ := h.1.slice
  obtain ⟨a', cap', rfl⟩ := h.2.slice
  unfold sv at hn ha ⊢
  unfold sl at hc
  have HN := Lib.hid hn
  have HA := Lib.hid ha
  have HC := Lib.hid hc
  clear h hs hn ha hc
  have hba := al w (.cells #[.slice a s.length cap, .slice a' l.length cap'] 25)
  have hbb := below_trans hba (al _ (.cells #[.string x.f, .string x.t, .int .i64 x.r, .int .i64 x.n, .int .i64 x.d] 27))
  have hbc := below_trans hbb (al _ (.cells #[.slice none 0 0, .slice none 0 0] 25))
  have hxa := (Box.made w [.slice a s.length cap, .slice a' l.length cap'] 25).below (below_trans (al _ (.cells #[.string x.f, .string x.t, .int .i64 x.r, .int .i64 x.n, .int .i64 x.d] 27)) (al _ (.cells #[.slice none 0 0, .slice none 0 0] 25)))
  have hxb := (Box.made (w.alloc (.cells #[.slice a s.length cap, .slice a' l.length cap'] 25)) [.string x.f, .string x.t, .int .i64 x.r, .int .i64 x.n, .int .i64 x.d] 27).below (al _ (.cells #[.slice none 0 0, .slice none 0 0] 25))
  have hxc := Box.made ((w.alloc (.cells #[.slice a s.length cap, .slice a' l.length cap'] 25)).alloc (.cells #[.string x.f, .string x.t, .int .i64 x.r, .int .i64 x.n, .int .i64 x.d] 27)) [.slice none 0 0, .slice none 0 0] 25
  simp only [World.size_alloc] at hxb hxc
  obtain ⟨W0, hW0⟩ : ∃ W0, ((w.alloc (.cells #[.slice a s.length cap, .slice a' l.length cap'] 25)).alloc (.cells #[.string x.f, .string x.t, .int .i64 x.r, .int .i64 x.n, .int .i64 x.d] 27)).alloc (.cells #[.slice none 0 0, .slice none 0 0] 25) = W0 := ⟨_, rfl⟩
  have HXA : Hid (Box w.heap.size [.slice a s.length cap, .slice a' l.length cap'] W0) := Lib.hid (hW0 ▸ hxa)
  have HXB : Hid (Box (w.heap.size + 1) [.string x.f, .string x.t, .int .i64 x.r, .int .i64 x.n, .int .i64 x.d] W0) := Lib.hid (hW0 ▸ hxb)
  have HXC : Hid (Box (w.heap.size + 1 + 1) [.slice none 0 0, .slice none 0 0] W0) := Lib.hid (hW0 ▸ hxc)
  have HB0 : Hid (Below w.heap.size w W0) := Lib.hid (hW0 ▸ hbc)
  clear hba hbb hbc hxa hxb hxc
  generalize ruleE s l x = z at *
  generalize l.any (fun o => clashB o x) = cl at *
  rcases hw with ⟨e1, rfl⟩ | ⟨e1, e2, rfl⟩ | ⟨e1, e2, e3, rfl⟩ | ⟨e1, e2, e3, e4, rfl⟩ | ⟨e1, e2, e3, e4, e5, rfl⟩ | ⟨e1, e2, e3, e4, e5, rfl⟩
  · rw [e1] at HR
    clear e1
    go_enter Try.func9, Try.ntmps9
    go_upto_region 1 with (fail)
    clear hW0
    obtain ⟨x0, x1⟩ := HXA.out.c2
    have hs0 := HXA.out.1
    obtain ⟨y0, y1, y2, y3, y4⟩ := HXB.out.c5
    have hs1 := HXB.out.1
    go_wp2_with fail
    (with_reducible refine (HR.out _ HB0.out).mono ?_)
    rintro e w1 ⟨rfl, hz⟩
    have HB1 := Lib.hid (below_trans HB0.out hz)
    have HXA1 := Lib.hid (HXA.out.below hz)
    have HXB1 := Lib.hid (HXB.out.below hz)
    have HXC1 := Lib.hid (HXC.out.below hz)
    clear hz
    obtain ⟨q0, q1⟩ := HXC1.out.c2
    obtain ⟨r0, r1⟩ := HXC1.out.z2
    have hsc := HXC1.out.1
    have HE := Lib.hid (below_two (b := w.heap.size + 1 + 1) (.slice none 0 0) (.slice none 0 0) HB1.out (by omega))
    go_wp2_with fail
    exact bodyPost_ret (by simp [results, Try.results9, go_sem, q0, q1]) rfl ⟨_, _, rfl, none_good _, HE.out⟩
  · rw [e1] at HR
    rw [e2] at HN
    clear e1 e2
    go_enter Try.func9, Try.ntmps9
    go_upto_region 1 with (fail)
    clear hW0
    obtain ⟨x0, x1⟩ := HXA.out.c2
    have hs0 := HXA.out.1
    obtain ⟨y0, y1, y2, y3, y4⟩ := HXB.out.c5
    have hs1 := HXB.out.1
    go_wp2_with fail
    (with_reducible refine (HR.out _ HB0.out).mono ?_)
    rintro e w1 ⟨rfl, hz⟩
    have HB1 := Lib.hid (below_trans HB0.out hz)
    have HXA1 := Lib.hid (HXA.out.below hz)
    have HXB1 := Lib.hid (HXB.out.below hz)
    have HXC1 := Lib.hid (HXC.out.below hz)
    clear hz
    obtain ⟨x01, x11⟩ := HXA1.out.c2
    have hs01 := HXA1.out.1
    obtain ⟨y01, y11, y21, y31, y41⟩ := HXB1.out.c5
    have hs11 := HXB1.out.1
    go_wp2_with fail
    (with_reducible refine (HN.out _).mono ?_)
    rintro e w2 ⟨rfl, hz⟩
    have HB2 := Lib.hid (below_trans HB1.out hz)
    have HXA2 := Lib.hid (HXA1.out.below hz)
    have HXB2 := Lib.hid (HXB1.out.below hz)
    have HXC2 := Lib.hid (HXC1.out.below hz)
    clear hz
    obtain ⟨q0, q1⟩ := HXC2.out.c2
    obtain ⟨r0, r1⟩ := HXC2.out.z2
    have hsc := HXC2.out.1
    have HE := Lib.hid (below_two (b := w.heap.size + 1 + 1) (.slice none 0 0) (.slice none 0 0) HB2.out (by omega))
    go_wp2_with fail
    exact bodyPost_ret (by simp [results, Try.results9, go_sem, q0, q1]) rfl ⟨_, _, rfl, none_good _, HE.out⟩
  · rw [e1] at HR
    rw [e2] at HN
    rw [e3] at HA
    clear e1 e2 e3
    go_enter Try.func9, Try.ntmps9
    go_upto_region 1 with (fail)
    clear hW0
    obtain ⟨x0, x1⟩ := HXA.out.c2
    have hs0 := HXA.out.1
    obtain ⟨y0, y1, y2, y3, y4⟩ := HXB.out.c5
    have hs1 := HXB.out.1
    go_wp2_with fail
    (with_reducible refine (HR.out _ HB0.out).mono ?_)
    rintro e w1 ⟨rfl, hz⟩
    have HB1 := Lib.hid (below_trans HB0.out hz)
    have HXA1 := Lib.hid (HXA.out.below hz)
    have HXB1 := Lib.hid (HXB.out.below hz)
    have HXC1 := Lib.hid (HXC.out.below hz)
    clear hz
    obtain ⟨x01, x11⟩ := HXA1.out.c2
    have hs01 := HXA1.out.1
    obtain ⟨y01, y11, y21, y31, y41⟩ := HXB1.out.c5
    have hs11 := HXB1.out.1
    go_wp2_with fail
    (with_reducible refine (HN.out _).mono ?_)
    rintro e w2 ⟨rfl, hz⟩
    have HB2 := Lib.hid (below_trans HB1.out hz)
    have HXA2 := Lib.hid (HXA1.out.below hz)
    have HXB2 := Lib.hid (HXB1.out.below hz)
    have HXC2 := Lib.hid (HXC1.out.below hz)
    clear hz
    obtain ⟨x02, x12⟩ := HXA2.out.c2
    have hs02 := HXA2.out.1
    obtain ⟨y02, y12, y22, y32, y42⟩ := HXB2.out.c5
    have hs12 := HXB2.out.1
    go_wp2_with fail
    (with_reducible refine (HA.out _ HB2.out).mono ?_)
    rintro e w3 ⟨rfl, hz⟩
    have HB3 := Lib.hid (below_trans HB2.out hz)
    have HXA3 := Lib.hid (HXA2.out.below hz)
    have HXB3 := Lib.hid (HXB2.out.below hz)
    have HXC3 := Lib.hid (HXC2.out.below hz)
    clear hz
    obtain ⟨q0, q1⟩ := HXC3.out.c2
    obtain ⟨r0, r1⟩ := HXC3.out.z2
    have hsc := HXC3.out.1
    have HE := Lib.hid (below_two (b := w.heap.size + 1 + 1) (.slice none 0 0) (.slice none 0 0) HB3.out (by omega))
    go_wp2_with fail
    exact bodyPost_ret (by simp [results, Try.results9, go_sem, q0, q1]) rfl ⟨_, _, rfl, none_good _, HE.out⟩
  · rw [e1] at HR
    rw [e2] at HN
    rw [e3] at HA
    subst e4
    clear e1 e2 e3
    go_enter Try.func9, Try.ntmps9
    go_upto_region 1 with (fail)
    clear hW0
    obtain ⟨x0, x1⟩ := HXA.out.c2
    have hs0 := HXA.out.1
    obtain ⟨y0, y1, y2, y3, y4⟩ := HXB.out.c5
    have hs1 := HXB.out.1
    go_wp2_with fail
    (with_reducible refine (HR.out _ HB0.out).mono ?_)
    rintro e w1 ⟨rfl, hz⟩
    have HB1 := Lib.hid (below_trans HB0.out hz)
    have HXA1 := Lib.hid (HXA.out.below hz)
    have HXB1 := Lib.hid (HXB.out.below hz)
    have HXC1 := Lib.hid (HXC.out.below hz)
    clear hz
    obtain ⟨x01, x11⟩ := HXA1.out.c2
    have hs01 := HXA1.out.1
    obtain ⟨y01, y11, y21, y31, y41⟩ := HXB1.out.c5
    have hs11 := HXB1.out.1
    go_wp2_with fail
    (with_reducible refine (HN.out _).mono ?_)
    rintro e w2 ⟨rfl, hz⟩
    have HB2 := Lib.hid (below_trans HB1.out hz)
    have HXA2 := Lib.hid (HXA1.out.below hz)
    have HXB2 := Lib.hid (HXB1.out.below hz)
    have HXC2 := Lib.hid (HXC1.out.below hz)
    clear hz
    obtain ⟨x02, x12⟩ := HXA2.out.c2
    have hs02 := HXA2.out.1
    obtain ⟨y02, y12, y22, y32, y42⟩ := HXB2.out.c5
    have hs12 := HXB2.out.1
    go_wp2_with fail
    (with_reducible refine (HA.out _ HB2.out).mono ?_)
    rintro e w3 ⟨rfl, hz⟩
    have HB3 := Lib.hid (below_trans HB2.out hz)
    have HXA3 := Lib.hid (HXA2.out.below hz)
    have HXB3 := Lib.hid (HXB2.out.below hz)
    have HXC3 := Lib.hid (HXC2.out.below hz)
    clear hz
    obtain ⟨x03, x13⟩ := HXA3.out.c2
    have hs03 := HXA3.out.1
    obtain ⟨y03, y13, y23, y33, y43⟩ := HXB3.out.c5
    have hs13 := HXB3.out.1
    go_wp2_with fail
    (with_reducible refine (HC.out _ _ HB3.out HXB3.out).mono ?_)
    rintro e w4 ⟨rfl, hz⟩
    have HB4 := Lib.hid (below_trans HB3.out hz)
    have HXA4 := Lib.hid (HXA3.out.below hz)
    have HXB4 := Lib.hid (HXB3.out.below hz)
    have HXC4 := Lib.hid (HXC3.out.below hz)
    clear hz
    obtain ⟨q0, q1⟩ := HXC4.out.c2
    obtain ⟨r0, r1⟩ := HXC4.out.z2
    have hsc := HXC4.out.1
    have HE := Lib.hid (below_two (b := w.heap.size + 1 + 1) (.slice none 0 0) (.slice none 0 0) HB4.out (by omega))
    go_wp2_with fail
    exact bodyPost_ret (by simp [results, Try.results9, go_sem, q0, q1]) rfl ⟨_, _, rfl, none_good _, HE.out⟩
  · rw [e1] at HR
    rw [e2] at HN
    rw [e3] at HA
    subst e4
    have HE5 := Lib.hid e5
    clear e1 e2 e3 e5
    go_enter Try.func9, Try.ntmps9
    go_upto_region 1 with (fail)
    clear hW0
    obtain ⟨x0, x1⟩ := HXA.out.c2
    have hs0 := HXA.out.1
    obtain ⟨y0, y1, y2, y3, y4⟩ := HXB.out.c5
    have hs1 := HXB.out.1
    go_wp2_with fail
    (with_reducible refine (HR.out _ HB0.out).mono ?_)
    rintro e w1 ⟨rfl, hz⟩
    have HB1 := Lib.hid (below_trans HB0.out hz)
    have HXA1 := Lib.hid (HXA.out.below hz)
    have HXB1 := Lib.hid (HXB.out.below hz)
    have HXC1 := Lib.hid (HXC.out.below hz)
    clear hz
    obtain ⟨x01, x11⟩ := HXA1.out.c2
    have hs01 := HXA1.out.1
    obtain ⟨y01, y11, y21, y31, y41⟩ := HXB1.out.c5
    have hs11 := HXB1.out.1
    go_wp2_with fail
    (with_reducible refine (HN.out _).mono ?_)
    rintro e w2 ⟨rfl, hz⟩
    have HB2 := Lib.hid (below_trans HB1.out hz)
    have HXA2 := Lib.hid (HXA1.out.below hz)
    have HXB2 := Lib.hid (HXB1.out.below hz)
    have HXC2 := Lib.hid (HXC1.out.below hz)
    clear hz
    obtain ⟨x02, x12⟩ := HXA2.out.c2
    have hs02 := HXA2.out.1
    obtain ⟨y02, y12, y22, y32, y42⟩ := HXB2.out.c5
    have hs12 := HXB2.out.1
    go_wp2_with fail
    (with_reducible refine (HA.out _ HB2.out).mono ?_)
    rintro e w3 ⟨rfl, hz⟩
    have HB3 := Lib.hid (below_trans HB2.out hz)
    have HXA3 := Lib.hid (HXA2.out.below hz)
    have HXB3 := Lib.hid (HXB2.out.below hz)
    have HXC3 := Lib.hid (HXC2.out.below hz)
    clear hz
    obtain ⟨x03, x13⟩ := HXA3.out.c2
    have hs03 := HXA3.out.1
    obtain ⟨y03, y13, y23, y33, y43⟩ := HXB3.out.c5
    have hs13 := HXB3.out.1
    go_wp2_with fail
    (with_reducible refine (HC.out _ _ HB3.out HXB3.out).mono ?_)
    rintro e w4 ⟨rfl, hz⟩
    have HB4 := Lib.hid (below_trans HB3.out hz)
    have HXA4 := Lib.hid (HXA3.out.below hz)
    have HXB4 := Lib.hid (HXB3.out.below hz)
    have HXC4 := Lib.hid (HXC3.out.below hz)
    clear hz
    obtain ⟨x04, x14⟩ := HXA4.out.c2
    have hs04 := HXA4.out.1
    obtain ⟨y04, y14, y24, y34, y44⟩ := HXB4.out.c5
    have hs14 := HXB4.out.1
    have e4 : ((l.length : Int) == 16) = true := by rw [HE5.out]; rfl
    obtain ⟨q0, q1⟩ := HXC4.out.c2
    obtain ⟨r0, r1⟩ := HXC4.out.z2
    have hsc := HXC4.out.1
    have HE := Lib.hid (below_two (b := w.heap.size + 1 + 1) (.slice none 0 0) (.slice none 0 0) HB4.out (by omega))
    go_wp2_with fail
    exact bodyPost_ret (by simp [results, Try.results9, go_sem, q0, q1]) rfl ⟨_, _, rfl, none_good _, HE.out⟩
  · exact absurd rfl he

set_option maxRecDepth 100000 in
set_option maxHeartbeats 4000000 in
theorem Rule_yes {v u : Value} {s : List ByteArray} {l : List Sb} {w : World} (h : GGood w v u s l) (hs : Short s l) (x : Sb) (hx : small x) (he : ruleE s l x = 0) : Calls Try.prog 9 #[.agg #[v, u], sv x] w (GoodsE s (putL (fun o => belowB o x) x l) 0 w) := by
  have hw := rule_ways s l x
  have HR := Lib.hid (fun W (hb : Below w.heap.size w W) => Right_any (h.below hb) hs)
  have hn := fun W => ruleMayBe_any x hx W
  have ha := fun W (hb : Below w.heap.size w W) => among_any x (h.1.below hb) hs.1
  have hc := fun W g (hb : Below w.heap.size w W) (hg : Box g (sl x) W) => ContainsFuncS_any 31 (enters_of Try.func31 (by kernel_rfl) rfl) g (fun o => clashB o x) (fun o _ W' hW => Rule1_any o x (hg.below hW)) (h.2.below hb) hs.2.1
  have hp := fun W g (hb : Below w.heap.size w W) (hg : Box g (sl x) W) => putG_any 35 (enters_of Try.func35 (by kernel_rfl) rfl) g (fun o => belowB o x) (fun o _ W' hW => Rule2_any o x (hg.below hW)) (h.2.below hb) hs.2.1 x
  have HD := Lib.hid (fun W (hb : Below w.heap.size w W) => CloneT_any (h.1.below hb) hs.1)
  have hmf := makes
  obtain ⟨a, cap, rfl⟩ := h.1.slice
  obtain ⟨a', cap', rfl⟩ := h.2.slice
  unfold sv at hn ha hp ⊢
  unfold sl at hc hp
  have HN := Lib.hid hn
  have HA := Lib.hid ha
  have HC := Lib.hid hc
  have HP := Lib.hid hp
  clear h hs hn ha hc hp
  have hba := al w (.cells #[.slice a s.length cap, .slice a' l.length cap'] 25)
  have hbb := below_trans hba (al _ (.cells #[.string x.f, .string x.t, .int .i64 x.r, .int .i64 x.n, .int .i64 x.d] 27))
  have hbc := below_trans hbb (al _ (.cells #[.slice none 0 0, .slice none 0 0] 25))
  have hxa := (Box.made w [.slice a s.length cap, .slice a' l.length cap'] 25).below (below_trans (al _ (.cells #[.string x.f, .string x.t, .int .i64 x.r, .int .i64 x.n, .int .i64 x.d] 27)) (al _ (.cells #[.slice none 0 0, .slice none 0 0] 25)))
  have hxb := (Box.made (w.alloc (.cells #[.slice a s.length cap, .slice a' l.length cap'] 25)) [.string x.f, .string x.t, .int .i64 x.r, .int .i64 x.n, .int .i64 x.d] 27).below (al _ (.cells #[.slice none 0 0, .slice none 0 0] 25))
  have hxc := Box.made ((w.alloc (.cells #[.slice a s.length cap, .slice a' l.length cap'] 25)).alloc (.cells #[.string x.f, .string x.t, .int .i64 x.r, .int .i64 x.n, .int .i64 x.d] 27)) [.slice none 0 0, .slice none 0 0] 25
  simp only [World.size_alloc] at hxb hxc
  obtain ⟨W0, hW0⟩ : ∃ W0, ((w.alloc (.cells #[.slice a s.length cap, .slice a' l.length cap'] 25)).alloc (.cells #[.string x.f, .string x.t, .int .i64 x.r, .int .i64 x.n, .int .i64 x.d] 27)).alloc (.cells #[.slice none 0 0, .slice none 0 0] 25) = W0 := ⟨_, rfl⟩
  have HXA : Hid (Box w.heap.size [.slice a s.length cap, .slice a' l.length cap'] W0) := Lib.hid (hW0 ▸ hxa)
  have HXB : Hid (Box (w.heap.size + 1) [.string x.f, .string x.t, .int .i64 x.r, .int .i64 x.n, .int .i64 x.d] W0) := Lib.hid (hW0 ▸ hxb)
  have HXC : Hid (Box (w.heap.size + 1 + 1) [.slice none 0 0, .slice none 0 0] W0) := Lib.hid (hW0 ▸ hxc)
  have HB0 : Hid (Below w.heap.size w W0) := Lib.hid (hW0 ▸ hbc)
  clear hba hbb hbc hxa hxb hxc
  generalize putL (fun o => belowB o x) x l = L1 at *
  generalize ruleE s l x = z at *
  generalize l.any (fun o => clashB o x) = cl at *
  subst he
  rcases hw with ⟨e1, e⟩ | ⟨e1, e2, e⟩ | ⟨e1, e2, e3, e⟩ | ⟨e1, e2, e3, e4, e⟩ | ⟨e1, e2, e3, e4, e5, e⟩ | ⟨e1, e2, e3, e4, e5, _⟩
  · cases e
  · cases e
  · cases e
  · cases e
  · cases e
  · rw [e1] at HR
    rw [e2] at HN
    rw [e3] at HA
    subst e4
    have HE5 := Lib.hid e5
    clear e1 e2 e3 e5
    go_enter Try.func9, Try.ntmps9
    go_upto_region 1 with (fail)
    clear hW0
    obtain ⟨x0, x1⟩ := HXA.out.c2
    have hs0 := HXA.out.1
    obtain ⟨y0, y1, y2, y3, y4⟩ := HXB.out.c5
    have hs1 := HXB.out.1
    go_wp2_with fail
    (with_reducible refine (HR.out _ HB0.out).mono ?_)
    rintro e w1 ⟨rfl, hz⟩
    have HB1 := Lib.hid (below_trans HB0.out hz)
    have HXA1 := Lib.hid (HXA.out.below hz)
    have HXB1 := Lib.hid (HXB.out.below hz)
    have HXC1 := Lib.hid (HXC.out.below hz)
    clear hz
    obtain ⟨x01, x11⟩ := HXA1.out.c2
    have hs01 := HXA1.out.1
    obtain ⟨y01, y11, y21, y31, y41⟩ := HXB1.out.c5
    have hs11 := HXB1.out.1
    go_wp2_with fail
    (with_reducible refine (HN.out _).mono ?_)
    rintro e w2 ⟨rfl, hz⟩
    have HB2 := Lib.hid (below_trans HB1.out hz)
    have HXA2 := Lib.hid (HXA1.out.below hz)
    have HXB2 := Lib.hid (HXB1.out.below hz)
    have HXC2 := Lib.hid (HXC1.out.below hz)
    clear hz
    obtain ⟨x02, x12⟩ := HXA2.out.c2
    have hs02 := HXA2.out.1
    obtain ⟨y02, y12, y22, y32, y42⟩ := HXB2.out.c5
    have hs12 := HXB2.out.1
    go_wp2_with fail
    (with_reducible refine (HA.out _ HB2.out).mono ?_)
    rintro e w3 ⟨rfl, hz⟩
    have HB3 := Lib.hid (below_trans HB2.out hz)
    have HXA3 := Lib.hid (HXA2.out.below hz)
    have HXB3 := Lib.hid (HXB2.out.below hz)
    have HXC3 := Lib.hid (HXC2.out.below hz)
    clear hz
    obtain ⟨x03, x13⟩ := HXA3.out.c2
    have hs03 := HXA3.out.1
    obtain ⟨y03, y13, y23, y33, y43⟩ := HXB3.out.c5
    have hs13 := HXB3.out.1
    go_wp2_with fail
    (with_reducible refine (HC.out _ _ HB3.out HXB3.out).mono ?_)
    rintro e w4 ⟨rfl, hz⟩
    have HB4 := Lib.hid (below_trans HB3.out hz)
    have HXA4 := Lib.hid (HXA3.out.below hz)
    have HXB4 := Lib.hid (HXB3.out.below hz)
    have HXC4 := Lib.hid (HXC3.out.below hz)
    clear hz
    obtain ⟨x04, x14⟩ := HXA4.out.c2
    have hs04 := HXA4.out.1
    obtain ⟨y04, y14, y24, y34, y44⟩ := HXB4.out.c5
    have hs14 := HXB4.out.1
    have e4 : ((l.length : Int) == 16) = false := by have := HE5.out; simpa using (by omega : ¬ ((l.length : Int) = 16))
    go_wp2_with fail
    (with_reducible refine (HP.out _ _ HB4.out HXB4.out).mono ?_)
    rintro e w5 ⟨v1, rfl, ho, hz⟩
    obtain ⟨aa5, nn5, cc5, rfl⟩ : ∃ a n c, v1 = .slice a n c := (by obtain ⟨a', c', e⟩ := ho.row.slice; exact ⟨a', _, c', e⟩)
    have HO5 := Lib.hid ho
    have HW5 := Lib.hid hz
    have HB5 := Lib.hid (below_trans HB4.out hz)
    have HXA5 := Lib.hid (HXA4.out.below hz)
    have HXB5 := Lib.hid (HXB4.out.below hz)
    have HXC5 := Lib.hid (HXC4.out.below hz)
    clear ho hz
    obtain ⟨x05, x15⟩ := HXA5.out.c2
    have hs05 := HXA5.out.1
    obtain ⟨y05, y15, y25, y35, y45⟩ := HXB5.out.c5
    have hs15 := HXB5.out.1
    go_wp2_with fail
    (with_reducible refine (HD.out _ HB5.out).mono ?_)
    rintro e w6 ⟨v2, rfl, ho, hz⟩
    obtain ⟨aa6, nn6, cc6, rfl⟩ : ∃ a n c, v2 = .slice a n c := (by obtain ⟨a', c', e⟩ := ho.row.slice; exact ⟨a', _, c', e⟩)
    have HO6 := Lib.hid ho
    have HW6 := Lib.hid hz
    have HB6 := Lib.hid (below_trans HB5.out hz)
    have HXA6 := Lib.hid (HXA5.out.below hz)
    have HXB6 := Lib.hid (HXB5.out.below hz)
    have HXC6 := Lib.hid (HXC5.out.below hz)
    clear ho hz
    have hsz3 := HXC4.out.1
    have hfar1 := HO5.out.far hsz3
    have hsz4 := HXC5.out.1
    have hfar2 := HO6.out.far hsz4
    have hrow1 := (HO5.out.row.below HW6.out)
    have HROW := Lib.hid (fun (x0 x1 : Value) => (And.intro ((HO6.out.row.apart (j := 0) (u := x0) hfar2).apart (j := 1) (u := x1) hfar2) ((hrow1.apart (j := 0) (u := x0) hfar1).apart (j := 1) (u := x1) hfar1) : GGood _ _ _ _ _))
    clear hsz3 hsz4 hfar1 hfar2 hrow1
    obtain ⟨q0, q1⟩ := HXC6.out.c2
    obtain ⟨r0, r1⟩ := HXC6.out.z2
    have hsc := HXC6.out.1
    have HE := Lib.hid (fun x0 x1 => below_two (b := w.heap.size + 1 + 1) x0 x1 HB6.out (by omega))
    go_wp2_with fail
    exact bodyPost_ret (by simp [results, Try.results9, go_sem, q0, q1]) rfl ⟨_, _, rfl, HROW.out _ _, HE.out _ _⟩
end Go.Proofs.Ythhadeohabkleaa.Goods
