/-
  Contract of the reference's Rule.
-/
import Derived.Test.YthhadeohabkleaaGRef2
namespace Go.Proofs.Ythhadeohabkleaa.Goods
open Go.ChangeShapes Go.WideShapes Go.ChangeAt Go.RowKit Go.Shelf

theorem Box.kept {b : Nat} {vs : List Value} {w w' : World} {r : Option Nat} (h : Box b vs w) (hg : w.grownBy w' r) (hne : some b ≠ r) : Box b vs w' := by
  have hb := hg.block b h.1 hne
  refine ⟨Nat.lt_of_lt_of_le h.1 hg.size, fun j v hj => ⟨?_, ?_⟩⟩
  · rw [World.cell?_of_block (a := ⟨b, j, none⟩) hb]; exact (h.2 j v hj).1
  · rw [World.frozen?_of_block (a := ⟨b, j, none⟩) hb]; exact (h.2 j v hj).2
/-- One is appended to a row of the call's own, beside a block. -/
theorem wpList_append_G_out {w : World} {ops : Array Oper} {rest : List Oper} {o : Oper} {a : Act} {Q : Exit → Act → World → Prop} (hgd : o.guard = none) (s y : Operand)
    (ho : o.op = .call { callee := .builtin .append, args := #[s, y], argTypes := #[23, 23] })
    (base : Nat) (v : Value) (l0 : List Sb) (hs : a.eval s = v) (hown : OwnG base v l0 w) (ad : Addr) (x : Sb) (hy : a.eval y = .slice (some ad) 1 1) (hrow : GRow w (.slice (some ad) 1 1) [x]) (h0 : l0.length ≤ 100000) (hbase : base ≤ w.heap.size)
    {b : Nat} {vs : List Value} (hbx : Box b vs w) (hne : some b ≠ v.ownBlock)
    (h : ∀ v' w', OwnG base v' (l0 ++ [x]) w' → Below base w w' → Box b vs w' → wpList Try.prog ops Q rest (a.put o.dst v') w') : wpList Try.prog ops Q (o :: rest) a w := by
  obtain ⟨i0, hi, hz0, hz1, hz2⟩ := info_parts infoG
  refine wpList_append_own w hgd s y 23 ho base 27 i0 (.agg #[.string ⟨#[]⟩, .string ⟨#[]⟩, .int .i64 0, .int .i64 0, .int .i64 0]) 5 56 Try.underlying23 hi hz0 hz1 hz2 rfl (by decide) v l0.length (gcells l0) hs hown ad 1 1 (gcells [x]) hy rfl (show GRow w (.slice (some ad) [x].length 1) [x] from hrow).news (gcells_one [x]) (by unfold maxLen; omega) (by omega) hbase ?_
  intro v' w1 hown' hgrow _
  refine h v' w1 ?_ ((show Below base w w from ⟨rfl, rfl, rfl, Nat.le_refl _, fun _ _ => rfl⟩).grown hgrow hbase (fun j hj => (hown.lt j hj).1)) (hbx.kept hgrow hne)
  unfold OwnG
  rw [gcells_append, List.length_append]
  exact hown'
theorem own_ne {B : Nat} {v : Value} {l : List Sb} {w : World} (h : OwnG B v l w) : some w.heap.size ≠ v.ownBlock := fun e => by
  have := (World.ownsRow.lt h _ e.symm).2
  omega

set_option maxRecDepth 100000 in
set_option maxHeartbeats 4000000 in
theorem refRule_any {v u : Value} {s : List ByteArray} {l : List Sb} {w : World} (h : GGood w v u s l) (hl : l.length ≤ 1000) (hs : ∀ y ∈ l, small y) (x : Sb) (hx : small x) : Calls Try.prog 20 #[.agg #[v, u], sv x] w (GoodsR s (putL (fun o => !belowB x o) x l) w) := by
  have H := Lib.hid h.2
  have HU := Lib.hid h.1
  have HC := Lib.hid (fun (y : Sb) (hy : y ∈ l) W => refAbove_any y x (hs y hy) hx W)
  obtain ⟨a, cap, rfl⟩ := h.1.slice
  obtain ⟨a', cap', rfl⟩ := h.2.slice
  unfold sv at HC ⊢
  have hba := below_trans (below_trans (al w (.cells #[.slice a s.length cap, .slice a' l.length cap'] 25)) (al _ (.cells #[.string x.f, .string x.t, .int .i64 x.r, .int .i64 x.n, .int .i64 x.d] 27))) (al _ (.cells #[.slice none 0 0, .slice none 0 0] 25))
  have hxa := (Box.made w [.slice a s.length cap, .slice a' l.length cap'] 25).below (below_trans (al _ (.cells #[.string x.f, .string x.t, .int .i64 x.r, .int .i64 x.n, .int .i64 x.d] 27)) (al _ (.cells #[.slice none 0 0, .slice none 0 0] 25)))
  have hxb := (Box.made (w.alloc (.cells #[.slice a s.length cap, .slice a' l.length cap'] 25)) [.string x.f, .string x.t, .int .i64 x.r, .int .i64 x.n, .int .i64 x.d] 27).below (al _ (.cells #[.slice none 0 0, .slice none 0 0] 25))
  have hxc := Box.made ((w.alloc (.cells #[.slice a s.length cap, .slice a' l.length cap'] 25)).alloc (.cells #[.string x.f, .string x.t, .int .i64 x.r, .int .i64 x.n, .int .i64 x.d] 27)) [.slice none 0 0, .slice none 0 0] 25
  simp only [World.size_alloc] at hxb hxc
  obtain ⟨W0, hW0⟩ : ∃ W0, (((w.alloc (.cells #[.slice a s.length cap, .slice a' l.length cap'] 25)).alloc (.cells #[.string x.f, .string x.t, .int .i64 x.r, .int .i64 x.n, .int .i64 x.d] 27)).alloc (.cells #[.slice none 0 0, .slice none 0 0] 25)) = W0 := ⟨_, rfl⟩
  have hsz : W0.heap.size = w.heap.size + 1 + 1 + 1 := by rw [← hW0]; simp only [World.size_alloc]
  have HXA : Hid (Box w.heap.size [.slice a s.length cap, .slice a' l.length cap'] W0) := Lib.hid (hW0 ▸ hxa)
  have HXB : Hid (Box (w.heap.size + 1) [.string x.f, .string x.t, .int .i64 x.r, .int .i64 x.n, .int .i64 x.d] W0) := Lib.hid (hW0 ▸ hxb)
  have HXC : Hid (Box (w.heap.size + 1 + 1) [.slice none 0 0, .slice none 0 0] W0) := Lib.hid (hW0 ▸ hxc)
  have HB0 : Hid (Below w.heap.size w W0) := Lib.hid (hW0 ▸ hba)
  have he := OwnG.empty W0 (Nat.le_refl _)
  have HA1 := Lib.hid (al W0 (.cells #[] 27))
  rw [hsz] at he
  have HE := Lib.hid he
  clear h hs hba hxa hxb hxc he hx
  go_enter Try.func20, Try.ntmps20
  go_upto_region 1 with (fail)
  clear hW0
  obtain ⟨x0, x1⟩ := HXA.out.c2
  have hs0 := HXA.out.1
  go_wp2_with fail
  go_loopw [5, 6, 8, 13] (fun v d _ i wr => ∃ j : Nat, j ≤ l.length ∧ i = .int .i64 j ∧ d = .bool (!(l.take j).all (fun o => !belowB x o)) ∧ OwnG (w.heap.size + 1 + 1 + 1) v (accL (fun o => !belowB x o) x l j) wr ∧ Below (w.heap.size + 1 + 1 + 1) W0 wr) (fun _ _ _ i _ => l.length - (intOf i).toNat)
  case atStart => exact ⟨0, Nat.zero_le _, rfl, rfl, HE.out, hsz ▸ HA1.out⟩
  case round =>
    obtain ⟨j, hj, rfl, rfl, hown, hbe⟩ := hrel
    have hlen := acc_len (fun o => !belowB x o) x l j
    obtain ⟨av, nv, cv, rfl⟩ : ∃ a n c, u5 = .slice a n c := (by obtain ⟨a', c', e⟩ := hown.row.slice; exact ⟨a', _, c', e⟩)
    have HO := Lib.hid hown
    have HBE := Lib.hid hbe
    have HBW := Lib.hid (HB0.out.trans (hbe.mono (by omega)))
    have hszr : w.heap.size + 1 + 1 + 1 ≤ wr.heap.size := by have := hbe.size; omega
    have HXBR := Lib.hid (HXB.out.below (hsz.symm ▸ hbe))
    clear hown hbe
    by_cases hlt : j < l.length
    · obtain ⟨b, off, rfl, _, _, hb, k0, k1, k2, k3, k4⟩ := (H.out.below HBW.out).at hlt
      have hc := HC.out l[j] (List.getElem_mem hlt)
      have HY := Lib.hid (fun a b => acc_yes (p := (fun o => !belowB x o)) (x := x) hlt a b)
      have HT := Lib.hid (fun a b => acc_turn (p := (fun o => !belowB x o)) (x := x) hlt a b)
      have HN := Lib.hid (fun a => acc_no (p := (fun o => !belowB x o)) (x := x) hlt a)
      have hba := al wr (.cells (sl l[j]).toArray 27)
      have hxy := Box.made wr (sl l[j]) 27
      unfold sl at hba hxy
      generalize l[j] = y at *
      have HBA := Lib.hid hba
      have HXY := Lib.hid hxy
      have HOA := Lib.hid (HO.out.below hba)
      have HZA := Lib.hid (hba.mono (by omega : w.heap.size + 1 + 1 + 1 ≤ wr.heap.size))
      have HXBA := Lib.hid (HXBR.out.below hba)
      have hsza := hba.size
      clear hba hxy
      cases ha : (l.take j).all (fun o => !belowB x o) with
      | true =>
        rw [ha] at HY HT
        clear HN ha
        cases hm : belowB x y with
        | false =>
          rw [hm] at hc HY
          have HC1 := Lib.hid hc
          have HY1 := Lib.hid (HY.out rfl rfl)
          clear hc HY HT hm
          obtain ⟨b0, b1, b2, b3, b4⟩ := HXBA.out.c5
          have hsb := HXBA.out.1
          go_wp2_with fail
          (with_reducible refine (HC1.out _).mono ?_)
          rintro e w1 ⟨rfl, hz⟩
          have HZ1 := Lib.hid hz
          have hsz1 := hz.size
          obtain ⟨d0, d1, d2, d3, d4⟩ := (HXY.out.below hz).c5
          have hsd := (HXY.out.below hz).1
          clear hz
          have hone := GRow.one w1 y
          have HON2 := Lib.hid ((HOA.out.below HZ1.out).below (al w1 (.cells #[.string y.f, .string y.t, .int .i64 y.r, .int .i64 y.n, .int .i64 y.d] 27)))
          have HONE2 := Lib.hid hone
          have hs2 := (al w1 (.cells #[.string y.f, .string y.t, .int .i64 y.r, .int .i64 y.n, .int .i64 y.d] 27)).size
          clear hone
          go_wp2_with (at_builtin; refine wpList_append_G rfl _ _ rfl (w.heap.size + 1 + 1 + 1) _ (accL (fun o => !belowB x o) x l j) rfl HON2.out _ [y] rfl HONE2.out (by first | omega | (simp only [List.length_append, List.length_cons, List.length_nil]; omega)) (by simp) (by omega) ?_)
          intro v2 w2 hown hbel
          obtain ⟨a2, n2, c2, rfl⟩ : ∃ a n c, v2 = .slice a n c := (by obtain ⟨a', c', e⟩ := hown.row.slice; exact ⟨a', _, c', e⟩)
          have HO2 := Lib.hid hown
          have HZ2 := Lib.hid ((HZA.out.trans (HZ1.out.mono (by omega))).trans ((al w1 (.cells #[.string y.f, .string y.t, .int .i64 y.r, .int .i64 y.n, .int .i64 y.d] 27)).mono (by omega) |>.trans hbel))
          have hsz2 := HZ2.out.size
          clear hown hbel
          go_wp2_with fail
          go_roundw
          case rel => exact ⟨j + 1, by omega, by go_num, by rw [HY1.out.2]; rfl, by rw [HY1.out.1]; exact HO2.out, HBE.out.trans HZ2.out⟩
          case measure => simp [intOf]; omega
        | true =>
          rw [hm] at hc HT
          have HC1 := Lib.hid hc
          have HY1 := Lib.hid (HT.out rfl rfl)
          clear hc HY HT hm
          obtain ⟨b0, b1, b2, b3, b4⟩ := HXBA.out.c5
          have hsb := HXBA.out.1
          go_wp2_with fail
          (with_reducible refine (HC1.out _).mono ?_)
          rintro e w1 ⟨rfl, hz⟩
          have HZ1 := Lib.hid hz
          have hsz1 := hz.size
          have HXY1 := Lib.hid (HXY.out.below hz)
          obtain ⟨e0, e1, e2, e3, e4⟩ := (HXBA.out.below hz).c5
          have hse := (HXBA.out.below hz).1
          clear hz
          have hone := GRow.one w1 x
          have HXYA := Lib.hid (HXY1.out.below (al w1 (.cells #[.string x.f, .string x.t, .int .i64 x.r, .int .i64 x.n, .int .i64 x.d] 27)))
          have HNE := Lib.hid (own_ne HO.out)
          have HON2 := Lib.hid ((HOA.out.below HZ1.out).below (al w1 (.cells #[.string x.f, .string x.t, .int .i64 x.r, .int .i64 x.n, .int .i64 x.d] 27)))
          have HONE2 := Lib.hid hone
          have hs2 := (al w1 (.cells #[.string x.f, .string x.t, .int .i64 x.r, .int .i64 x.n, .int .i64 x.d] 27)).size
          clear hone
          go_wp2_with (at_builtin; refine wpList_append_G_out rfl _ _ rfl (w.heap.size + 1 + 1 + 1) _ (accL (fun o => !belowB x o) x l j) rfl HON2.out _ x rfl HONE2.out (by first | omega | (simp only [List.length_append, List.length_cons, List.length_nil]; omega)) (by omega) HXYA.out HNE.out ?_)
          intro v2 w2 hown hbel hxy
          obtain ⟨a2, n2, c2, rfl⟩ : ∃ a n c, v2 = .slice a n c := (by obtain ⟨a', c', e⟩ := hown.row.slice; exact ⟨a', _, c', e⟩)
          have HO2 := Lib.hid hown
          have HZ2 := Lib.hid ((HZA.out.trans (HZ1.out.mono (by omega))).trans ((al w1 (.cells #[.string x.f, .string x.t, .int .i64 x.r, .int .i64 x.n, .int .i64 x.d] 27)).mono (by omega) |>.trans hbel))
          have HXY2 := Lib.hid hxy
          clear hxy
          have hsz2 := HZ2.out.size
          clear hown hbel
          obtain ⟨d0, d1, d2, d3, d4⟩ := HXY2.out.c5
          have hsd := HXY2.out.1
          have hone := GRow.one w2 y
          have HON3 := Lib.hid (HO2.out.below (al w2 (.cells #[.string y.f, .string y.t, .int .i64 y.r, .int .i64 y.n, .int .i64 y.d] 27)))
          have HONE3 := Lib.hid hone
          have hs3 := (al w2 (.cells #[.string y.f, .string y.t, .int .i64 y.r, .int .i64 y.n, .int .i64 y.d] 27)).size
          clear hone
          go_wp2_with (at_builtin; refine wpList_append_G rfl _ _ rfl (w.heap.size + 1 + 1 + 1) _ (accL (fun o => !belowB x o) x l j ++ [x]) rfl HON3.out _ [y] rfl HONE3.out (by first | omega | (simp only [List.length_append, List.length_cons, List.length_nil]; omega)) (by simp) (by omega) ?_)
          intro v3 w3 hown hbel
          obtain ⟨a3, n3, c3, rfl⟩ : ∃ a n c, v3 = .slice a n c := (by obtain ⟨a', c', e⟩ := hown.row.slice; exact ⟨a', _, c', e⟩)
          have HO3 := Lib.hid hown
          have HZ3 := Lib.hid (HZ2.out.trans ((al w2 (.cells #[.string y.f, .string y.t, .int .i64 y.r, .int .i64 y.n, .int .i64 y.d] 27)).mono (by omega) |>.trans hbel))
          have hsz3 := HZ3.out.size
          clear hown hbel
          go_wp2_with fail
          go_roundw
          case rel => exact ⟨j + 1, by omega, by go_num, by rw [HY1.out.2]; rfl, by rw [HY1.out.1, List.append_assoc]; exact HO3.out, HBE.out.trans HZ3.out⟩
          case measure => simp [intOf]; omega
      | false =>
        rw [ha] at HN
        have HY1 := Lib.hid (HN.out rfl)
        clear HN HY HT hc ha
        have hone := GRow.one (wr.alloc (.cells #[.string y.f, .string y.t, .int .i64 y.r, .int .i64 y.n, .int .i64 y.d] 27)) y
        simp only [World.size_alloc] at hone
        have HON2 := Lib.hid (HOA.out.below (al (wr.alloc (.cells #[.string y.f, .string y.t, .int .i64 y.r, .int .i64 y.n, .int .i64 y.d] 27)) (.cells #[.string y.f, .string y.t, .int .i64 y.r, .int .i64 y.n, .int .i64 y.d] 27)))
        have HONE2 := Lib.hid hone
        have hs2 := (al (wr.alloc (.cells #[.string y.f, .string y.t, .int .i64 y.r, .int .i64 y.n, .int .i64 y.d] 27)) (.cells #[.string y.f, .string y.t, .int .i64 y.r, .int .i64 y.n, .int .i64 y.d] 27)).size
        clear hone
        go_wp2_with (at_builtin; refine wpList_append_G rfl _ _ rfl (w.heap.size + 1 + 1 + 1) _ (accL (fun o => !belowB x o) x l j) rfl HON2.out _ [y] rfl HONE2.out (by first | omega | (simp only [List.length_append, List.length_cons, List.length_nil]; omega)) (by simp) (by omega) ?_)
        intro v2 w2 hown hbel
        obtain ⟨a2, n2, c2, rfl⟩ : ∃ a n c, v2 = .slice a n c := (by obtain ⟨a', c', e⟩ := hown.row.slice; exact ⟨a', _, c', e⟩)
        have HO2 := Lib.hid hown
        have HZ2 := Lib.hid (HZA.out.trans ((al (wr.alloc (.cells #[.string y.f, .string y.t, .int .i64 y.r, .int .i64 y.n, .int .i64 y.d] 27)) (.cells #[.string y.f, .string y.t, .int .i64 y.r, .int .i64 y.n, .int .i64 y.d] 27)).mono (by omega) |>.trans hbel))
        have hsz2 := HZ2.out.size
        clear hown hbel
        go_wp2_with fail
        go_roundw
        case rel => exact ⟨j + 1, by omega, by go_num, by rw [HY1.out.2]; rfl, by rw [HY1.out.1]; exact HO2.out, HBE.out.trans HZ2.out⟩
        case measure => simp [intOf]; omega
    · obtain rfl : j = l.length := by omega
      have HEND := Lib.hid (acc_end (p := (fun o => !belowB x o)) (x := x) (l := l))
      rw [List.take_length]
      cases ha : l.all (fun o => !belowB x o) with
      | true =>
        have HP := Lib.hid (HEND.out.1 ha)
        clear ha HEND
        obtain ⟨b0, b1, b2, b3, b4⟩ := HXBR.out.c5
        have hsb := HXBR.out.1
        have hone := GRow.one wr x
        have HON2 := Lib.hid (HO.out.below (al wr (.cells #[.string x.f, .string x.t, .int .i64 x.r, .int .i64 x.n, .int .i64 x.d] 27)))
        have HONE2 := Lib.hid hone
        have hs2 := (al wr (.cells #[.string x.f, .string x.t, .int .i64 x.r, .int .i64 x.n, .int .i64 x.d] 27)).size
        clear hone
        go_wp2_with (at_builtin; refine wpList_append_G rfl _ _ rfl (w.heap.size + 1 + 1 + 1) _ (accL (fun o => !belowB x o) x l l.length) rfl HON2.out _ [x] rfl HONE2.out (by first | omega | (simp only [List.length_append, List.length_cons, List.length_nil]; omega)) (by simp) (by omega) ?_)
        intro v2 w2 hown hbel
        obtain ⟨a2, n2, c2, rfl⟩ : ∃ a n c, v2 = .slice a n c := (by obtain ⟨a', c', e⟩ := hown.row.slice; exact ⟨a', _, c', e⟩)
        have HO2 := Lib.hid hown
        have HZ2 := Lib.hid (((al wr (.cells #[.string x.f, .string x.t, .int .i64 x.r, .int .i64 x.n, .int .i64 x.d] 27)).mono (by omega) |>.trans hbel))
        have hsz2 := HZ2.out.size
        clear hown hbel
        have HV := Lib.hid (HBE.out.trans HZ2.out)
        have HR := HO2
        rw [← HP.out] at HR
        obtain ⟨q0, q1⟩ := (HXC.out.below (hsz.symm ▸ HV.out)).c2
        obtain ⟨r0, r1⟩ := (HXC.out.below (hsz.symm ▸ HV.out)).z2
        have hsc := (HXC.out.below (hsz.symm ▸ HV.out)).1
        obtain ⟨p0, p1⟩ := (HXA.out.below (hsz.symm ▸ HV.out)).c2
        obtain ⟨t0, t1⟩ := (HXA.out.below (hsz.symm ▸ HV.out)).z2
        have hsa := (HXA.out.below (hsz.symm ▸ HV.out)).1
        have HW := Lib.hid (HB0.out.trans (HV.out.mono (by omega)))
        have HFAR := Lib.hid (HR.out.far (by omega : w.heap.size < w.heap.size + 1 + 1 + 1))
        have HFAR2 := Lib.hid (HR.out.far (by omega : w.heap.size + 1 + 1 < w.heap.size + 1 + 1 + 1))
        have HROW := Lib.hid (fun (y0 y1 y2 : Value) => (And.intro (HU.out.below (below_two (b := w.heap.size + 1 + 1) y1 y2 (below_one (b := w.heap.size) 1 y0 HW.out (Nat.le_refl _)) (by omega))) (((HR.out.row.apart (j := 1) (u := y0) HFAR.out).apart (j := 0) (u := y1) HFAR2.out).apart (j := 1) (u := y2) HFAR2.out) : GGood _ _ _ _ _))
        have HEE := Lib.hid (fun (y0 y1 y2 : Value) => below_two (b := w.heap.size + 1 + 1) y1 y2 (below_one (b := w.heap.size) 1 y0 HW.out (Nat.le_refl _)) (by omega))
        go_wp2_with fail
        exact bodyPost_ret (by simp [results, Try.results20, go_sem, q0, q1]) rfl ⟨_, _, rfl, HROW.out _ _ _, HEE.out _ _ _⟩
      | false =>
        have HP := Lib.hid (HEND.out.2 ha)
        clear ha HEND
        have HV := HBE
        have HR := HO
        rw [← HP.out] at HR
        obtain ⟨q0, q1⟩ := (HXC.out.below (hsz.symm ▸ HV.out)).c2
        obtain ⟨r0, r1⟩ := (HXC.out.below (hsz.symm ▸ HV.out)).z2
        have hsc := (HXC.out.below (hsz.symm ▸ HV.out)).1
        obtain ⟨p0, p1⟩ := (HXA.out.below (hsz.symm ▸ HV.out)).c2
        obtain ⟨t0, t1⟩ := (HXA.out.below (hsz.symm ▸ HV.out)).z2
        have hsa := (HXA.out.below (hsz.symm ▸ HV.out)).1
        have HW := Lib.hid (HB0.out.trans (HV.out.mono (by omega)))
        have HFAR := Lib.hid (HR.out.far (by omega : w.heap.size < w.heap.size + 1 + 1 + 1))
        have HFAR2 := Lib.hid (HR.out.far (by omega : w.heap.size + 1 + 1 < w.heap.size + 1 + 1 + 1))
        have HROW := Lib.hid (fun (y0 y1 y2 : Value) => (And.intro (HU.out.below (below_two (b := w.heap.size + 1 + 1) y1 y2 (below_one (b := w.heap.size) 1 y0 HW.out (Nat.le_refl _)) (by omega))) (((HR.out.row.apart (j := 1) (u := y0) HFAR.out).apart (j := 0) (u := y1) HFAR2.out).apart (j := 1) (u := y2) HFAR2.out) : GGood _ _ _ _ _))
        have HEE := Lib.hid (fun (y0 y1 y2 : Value) => below_two (b := w.heap.size + 1 + 1) y1 y2 (below_one (b := w.heap.size) 1 y0 HW.out (Nat.le_refl _)) (by omega))
        go_wp2_with fail
        exact bodyPost_ret (by simp [results, Try.results20, go_sem, q0, q1]) rfl ⟨_, _, rfl, HROW.out _ _ _, HEE.out _ _ _⟩
end Go.Proofs.Ythhadeohabkleaa.Goods
