/-
  Joined: JFewD, JFewT, JFew, JAlive.
-/
import Derived.Test.YtlpkalfbcphkmaaGreatMq

/-
  Contract of the law's own disk: of a disk that came in some few sectors and writes, each cut, in new rows.
-/
namespace Go.Proofs.YtlpkalfbcphkmaaGreat.Disk.Jn
open Go.ChangeShapes Go.WideShapes Go.ChangeAt Go.RowKit Go.Lib

/-- A disk of few sectors and writes, in new rows, is returned. -/
def DkE (w : World) (e : Ending) (w' : World) : Prop :=
  ∃ uS uW ls ws, e = .returned (.agg #[uS, uW]) ∧ ls.length ≤ 30 ∧ ws.length ≤ 4 ∧ (∀ t ∈ ls, t.size ≤ 66) ∧ (∀ y ∈ ws, y.2.size ≤ 66) ∧ (SRow w' uS ls ∧ From w.heap.size uS) ∧ (WRow w' uW ws ∧ From w.heap.size uW) ∧ Below w.heap.size w w'

/-- What holds at the heads of few's two loops. -/
def Dk1 (w : World) (vS vW : Value) (n : Nat) (i : Value) (wr : World) : Prop := ∃ u l, l.length ≤ n ∧ i = .int .i64 l.length ∧ (∀ t ∈ l, t.size ≤ 66) ∧ FewB w vS vW u (.slice none 0 0) l [] wr
def Dk2 (w : World) (vS vW u : Value) (l : List ByteArray) (n : Nat) (i : Value) (wr : World) : Prop := ∃ v m, m.length ≤ n ∧ i = .int .i64 m.length ∧ (∀ y ∈ m, y.2.size ≤ 66) ∧ FewB w vS vW u v l m wr

set_option maxHeartbeats 2000000 in
set_option maxRecDepth 100000 in
theorem disk_any {vS vW : Value} {w : World} (hS : ArgS w vS) (hW : ArgW w vW) : Calls Tryz.prog 6 #[.agg #[vS, vW]] w (DkE w) := by
  obtain ⟨i0, hi, hz0, hz1, hz2⟩ := info_parts Tryz.infoS
  obtain ⟨i1, hi1, hy0, hy1, hy2⟩ := info_parts Tryz.infoW
  obtain ⟨aS, len, cap, rfl, hl1, hl2, HS⟩ := hS
  obtain ⟨aW, lenW, capW, rfl, hw1, hw2, HW⟩ := hW
  replace HS := Lib.hid HS
  replace HW := Lib.hid HW
  have HF := Lib.hid (FewB.made w (.slice aS len cap) (.slice aW lenW capW))
  obtain ⟨n, hn, hnl, hn20⟩ : ∃ n : Nat, min (len : Int) 30 = n ∧ n ≤ len ∧ n ≤ 30 := ⟨min len 30, by omega, by omega, by omega⟩
  go_enter Tryz.func6, Tryz.ntmps6
  go_wp2
  go_loopw [16] (fun i wr => Dk1 w (.slice aS len cap) (.slice aW lenW capW) n i wr) (fun i _ => n - (RowKit.intOf i).toNat)
  case atStart => exact ⟨_, [], Nat.zero_le _, rfl, by simp, HF.out⟩
  case round =>
    clear HF hn
    obtain ⟨u, l, hln, rfl, hall, hF⟩ := hrel
    have HF := Lib.hid hF
    have HAL := Lib.hid hall
    clear hall
    by_cases hlt : l.length < n
    · obtain ⟨b, off, rfl, hb, hcs⟩ := HS.out (by omega)
      obtain ⟨t, ht, hct⟩ := hcs l.length (by omega)
      have hce := (hF.2.2.2.2.2.cell (p := ⟨b, off + l.length, none⟩) hb).trans hct
      have hbw : b < wr.heap.size := Nat.lt_of_lt_of_le hb hF.2.2.2.2.2.size
      obtain ⟨q, hq, hqt, hq66⟩ : ∃ q : Nat, min (t.size : Int) 66 = q ∧ q ≤ t.size ∧ q ≤ 66 := ⟨min t.size 66, by omega, by omega, by omega⟩
      obtain ⟨h1, h2, ⟨o0, o1, o2, o3, o4⟩, h4, h5, h6⟩ := hF
      have HO := Lib.hid h4
      have hsz := h6.size
      have HM1 : Hid (l.length + 1 ≤ maxLen) := by unfold Hid maxLen; omega
      have HM2 : Hid ((l.length + 1) * 16 ≤ 140737488355328) := by unfold Hid; omega
      clear hcs hct h1 h2 h4 h5 h6
      go_upto_region 5 with (fail)
      have HFd := Lib.hid (HF.out.below (below_trans (al wr (.cells #[.string (t.extract 0 q)] 9)) ((Below.refl _ _).drew)))
      have HN : Hid (∀ j u, [Value.string (t.extract 0 q)][j]? = some u → (wr.alloc (.cells #[.string (t.extract 0 q)] 9)).drew.cell? ((⟨wr.heap.size, 0, none⟩ : Addr).add j) = some u) := World.news_of_block (cs := #[.string (t.extract 0 q)]) (t := 9) (fr := (0, 0)) (heap_alloc_new wr _)
      go_region_law ((refine step_append_lies _ (by rfl) _ _ _ (by rfl) (w.heap.size + 3) 9 i0 _ 1 16 Tryz.underlying22 hi hz0 hz1 hz2 rfl (by omega) u l.length (scells l) (by rfl) HFd.out.2.2.2.1 ⟨wr.heap.size, 0, none⟩ 1 1 [.string (t.extract 0 q)] (by rfl) (by rfl) HN.out (by simp [Value.oneCell']) (by omega) HM1.out HM2.out (by simp; omega) (wr.heap.size + 1) (by simp) ?_; intro gg capA w1 hown1 hgrow hat hltA; have HE := Lib.hid (HFd.out.snocS hgrow hown1); obtain ⟨q0, q1, q2, q3, q4⟩ := HE.out.1; clear hown1 hgrow hat))
      all_goals
        clear q0 q1 q2 q3 q4 hq
        go_wp2
        go_roundw
        case rel =>
          refine ⟨_, l ++ [t.extract 0 q], by simp; omega, by simp, ?_, HE.out.2⟩
          intro y hy
          rcases List.mem_append.1 hy with h | h
          · exact HAL.out y h
          · obtain rfl := List.mem_singleton.1 h
            rw [ByteArray.size_extract]; omega
        case measure => simp [RowKit.intOf]; omega
    · obtain ⟨⟨b0, b1, b2, b3, b4⟩, _, _, _, _, hbe⟩ := hF
      clear hbe
      obtain ⟨m0, hm, hml, hm66⟩ : ∃ n : Nat, min (lenW : Int) 4 = n ∧ n ≤ lenW ∧ n ≤ 4 := ⟨min lenW 4, by omega, by omega, by omega⟩
      go_wp2
      go_loopw [39] (fun i wr => Dk2 w (.slice aS len cap) (.slice aW lenW capW) u l m0 i wr) (fun i _ => m0 - (RowKit.intOf i).toNat)
      case atStart => exact ⟨_, [], Nat.zero_le _, rfl, by simp, HF.out⟩
      case round =>
        clear HF hm b0 b1 b2 b3 b4
        obtain ⟨v, m, hmn, rfl, hallW, hF⟩ := hrel
        have HF := Lib.hid hF
        have HALW := Lib.hid hallW
        clear hallW
        by_cases hlt2 : m.length < m0
        · obtain ⟨b, off, rfl, hb, hcs⟩ := HW.out (by omega)
          obtain ⟨ya, t, ht, hct1, hct2⟩ := hcs m.length (by omega)
          have hce1 := (hF.2.2.2.2.2.cell (p := ⟨b, off + m.length * 2, none⟩) hb).trans hct1
          have hce2 := (hF.2.2.2.2.2.cell (p := ⟨b, off + m.length * 2 + 1, none⟩) hb).trans hct2
          have hbw : b < wr.heap.size := Nat.lt_of_lt_of_le hb hF.2.2.2.2.2.size
          obtain ⟨q, hq, hqt, hq66⟩ : ∃ q : Nat, min (t.size : Int) 66 = q ∧ q ≤ t.size ∧ q ≤ 66 := ⟨min t.size 66, by omega, by omega, by omega⟩
          obtain ⟨h1, h2, ⟨o0, o1, o2, o3, o4⟩, h4, h5, h6⟩ := hF
          have hsz := h6.size
          have HM1 : Hid (m.length + 1 ≤ maxLen) := by unfold Hid maxLen; omega
          have HM2 : Hid ((m.length + 1) * 24 ≤ 140737488355328) := by unfold Hid; omega
          clear hcs hct1 hct2 h1 h2 h4 h5 h6
          have HFc := Lib.hid (HF.out.below (below_trans (al wr (.cells #[.int .i64 ya, .string (t.extract 0 q)] 59)) (al _ (.cells #[.int .i64 ya, .string (t.extract 0 q)] 59))))
          have HN : Hid (Box2 (wr.heap.size + 1) (.int .i64 ya) (.string (t.extract 0 q)) ((wr.alloc (.cells #[.int .i64 ya, .string (t.extract 0 q)] 59)).alloc (.cells #[.int .i64 ya, .string (t.extract 0 q)] 59))) := by
            have := Box2.made (wr.alloc (.cells #[.int .i64 ya, .string (t.extract 0 q)] 59)) (.int .i64 ya) (.string (t.extract 0 q)) 59
            simp only [World.size_alloc] at this
            exact this
          go_wp2_with (at_builtin; refine wpList_append_lies _ rfl _ _ 23 rfl (w.heap.size + 3) 59 i1 (.agg #[.int .i64 0, .string ⟨#[]⟩]) 2 24 Tryz.underlying23 hi1 hy0 hy1 hy2 rfl (by omega) v m.length (wcells m) rfl HFc.out.2.2.2.2.1 ⟨wr.heap.size + 1, 0, none⟩ 1 1 [.int .i64 ya, .string (t.extract 0 q)] rfl rfl (news2 HN.out) (by simp [Value.oneCell']) (by omega) HM1.out HM2.out (by simp; omega) (wr.heap.size + 1 + 1) (by simp) ?_; intro gg capA w1 hown1 hgrow hat hltA; have HE := Lib.hid (HFc.out.snocW hgrow hown1); obtain ⟨q0, q1, q2, q3, q4⟩ := HE.out.1; clear hown1 hgrow hat)
          go_roundw
          case rel =>
            refine ⟨_, m ++ [(ya, t.extract 0 q)], by simp; omega, by simp, ?_, HE.out.2⟩
            intro y hy
            rcases List.mem_append.1 hy with h | h
            · exact HALW.out y h
            · obtain rfl := List.mem_singleton.1 h
              show (t.extract 0 q).size ≤ 66
              rw [ByteArray.size_extract]; omega
          case measure => simp [RowKit.intOf]; omega
        · obtain ⟨h1, ⟨o0, o1, o2, o3, o4⟩, ⟨b0, b1, b2, b3, b4⟩, h4, h5, h6⟩ := hF
          have HE := Lib.hid (few_end HF.out)
          obtain ⟨au, cu, eu⟩ := h4.row.slice
          obtain ⟨av, cv, ev⟩ := h5.row.slice
          subst eu ev
          clear h1 h4 h5 h6
          go_wp2
          obtain ⟨⟨z0, z1, z2, _⟩, z3, z4, z5⟩ := HE.out
          exact bodyPost_ret (v := .agg #[.slice au l.length cu, .slice av m.length cv]) (by simp [results, Tryz.results6, go_sem, z1, z2]) rfl ⟨_, _, l, m, rfl, by omega, by omega, HAL.out, HALW.out, z3, z4, z5⟩
end Go.Proofs.YtlpkalfbcphkmaaGreat.Disk.Jn

/-
  Contract of the law's own texts: of a row of texts that came in some few, each cut, in a new row.
-/
namespace Go.Proofs.YtlpkalfbcphkmaaGreat.Disk.Jn
open Go.ChangeShapes Go.WideShapes Go.ChangeAt Go.RowKit Go.Lib

/-- A row of at most m texts is returned, in new blocks. -/
def TextsE (m : Nat) (w : World) (e : Ending) (w' : World) : Prop :=
  ∃ (v : Value) (ls : List ByteArray), e = .returned v ∧ ls.length ≤ m ∧ (∀ t ∈ ls, t.size ≤ 1002) ∧ (SRow w' v ls ∧ From w.heap.size v) ∧ Below w.heap.size w w'

/-- What holds at the head of the loop. -/
def Txt (n : Nat) (w : World) (v i : Value) (wr : World) : Prop :=
  ∃ (l : List ByteArray), l.length ≤ n ∧ i = .int .i64 l.length ∧ (∀ t ∈ l, t.size ≤ 1002) ∧ OwnS w.heap.size v l wr ∧ Below w.heap.size w wr

theorem txt_snoc {w wr w1 : World} {v v' : Value} {l : List ByteArray} {t : ByteArray} {o : Obj} (hown : OwnS w.heap.size v l wr) (hnx : Below w.heap.size w wr)
    (hown' : w1.ownsRow w.heap.size 9 1 v' (l.length + 1) (scells l ++ [.string t])) (hgrow : (wr.alloc o).grownBy w1 v.ownBlock) :
    OwnS w.heap.size v' (l ++ [t]) w1 ∧ Below w.heap.size w w1 := by
  have hs := hnx.size
  refine ⟨?_, (hnx.alloc hs o).grown hgrow (by simp; omega) (fun j hj => (World.ownsRow.lt hown j hj).1)⟩
  unfold OwnS
  rw [scells_snoc, List.length_append]
  exact hown'

set_option maxHeartbeats 2000000 in
set_option maxRecDepth 100000 in
theorem texts_any {v : Value} (m : Nat) (hm : m ≤ 1000) {w : World} (h : ArgS w v) : Calls Tryz.prog 29 #[v, .int .i64 m] w (TextsE m w) := by
  obtain ⟨i0, hi, hz0, hz1, hz2⟩ := info_parts Tryz.infoS
  obtain ⟨a, len, cap, rfl, hl1, hl2, HS⟩ := h
  replace HS := Lib.hid HS
  obtain ⟨n, hn, hnl, hnm⟩ : ∃ n : Nat, min (len : Int) (m : Int) = n ∧ n ≤ len ∧ n ≤ m := ⟨min len m, by omega, by omega, by omega⟩
  go_enter Tryz.func29, Tryz.ntmps29
  go_wp2
  go_loopw [5, 15] (fun v i wr => Txt n w v i wr) (fun _ i _ => n - (RowKit.intOf i).toNat)
  case atStart => exact ⟨[], by simp, rfl, by simp, World.ownsRow_nil _ _ _ _, Below.refl _ _⟩
  case round =>
    clear hn
    obtain ⟨l, hln, rfl, hall, hown, hnx⟩ := hrel
    have hns := hnx.size
    have HAL := Lib.hid hall
    have HO := Lib.hid hown
    by_cases hlt : l.length < n
    · obtain ⟨b, off, rfl, hb, hcs⟩ := HS.out (by omega)
      obtain ⟨t, ht, hct⟩ := hcs l.length (by omega)
      have hce := (hnx.cell (p := ⟨b, off + l.length, none⟩) hb).trans hct
      have HN := Lib.hid hnx
      obtain ⟨q, hq, hqt, hq66⟩ : ∃ q : Nat, min (t.size : Int) 1002 = q ∧ q ≤ t.size ∧ q ≤ 1002 := ⟨min t.size 1002, by omega, by omega, by omega⟩
      clear hall hown hnx hcs hct
      go_wp2_with (at_builtin; refine wpList_append_own _ rfl _ _ 22 rfl w.heap.size 9 i0 (.string ⟨#[]⟩) 1 16 Tryz.underlying22 hi hz0 hz1 hz2 rfl (by decide) _ _ _ rfl (HO.out.alloc _) ⟨wr.heap.size, 0, none⟩ 1 1 [.string (t.extract 0 q)] rfl rfl ?d1 ?d2 ?d3 ?d4 ?d5 ?_)
      case d1 =>
        intro j y hj
        match j, hj with
        | 0, hj => simp at hj; subst hj; simp [Addr.add]
      case d2 => intro y hy; simp at hy; subst hy; rfl
      case d3 => unfold maxLen; omega
      case d4 => omega
      case d5 => simp; omega
      intro v' w1 hown' hgrow _
      have R := txt_snoc HO.out HN.out hown' hgrow
      have HR := Lib.hid R
      clear R hown' hgrow hce hq
      go_wp2
      go_roundw
      case rel =>
        refine ⟨l ++ [t.extract 0 q], by simp; omega, by simp, ?_, HR.out.1, HR.out.2⟩
        intro y hy
        rcases List.mem_append.1 hy with h | h
        · exact HAL.out y h
        · obtain rfl := List.mem_singleton.1 h
          rw [ByteArray.size_extract]; omega
      case measure => simp [RowKit.intOf]; omega
    · have HN := Lib.hid hnx
      clear hall hown hnx
      go_wp2
      go_ret
      exact ⟨_, l, rfl, by omega, HAL.out, ⟨HO.out.row, from_ownS HO.out⟩, HN.out⟩
end Go.Proofs.YtlpkalfbcphkmaaGreat.Disk.Jn

/-
  Contract of the law's own few: of a journal that came in, its disk, what waits and its records cut, in new rows.
-/
namespace Go.Proofs.YtlpkalfbcphkmaaGreat.Disk.Jn
open Go.ChangeShapes Go.WideShapes Go.ChangeAt Go.RowKit Go.Lib

/-- A journal is returned, in new rows. -/
def FewJ (s h u : Int) (w : World) (e : Ending) (w' : World) : Prop :=
  ∃ vS vW vG vR ls ws g l, e = .returned (jv vS vW s h u vG vR) ∧ (ls.length ≤ 30 ∧ ws.length ≤ 4 ∧ (∀ t ∈ ls, t.size ≤ 66) ∧ (∀ y ∈ ws, y.2.size ≤ 66)) ∧ (g.length ≤ 18 ∧ (∀ t ∈ g, t.size ≤ 1002)) ∧ (l.length ≤ 60 ∧ (∀ t ∈ l, t.size ≤ 1002)) ∧
    (SRow w' vS ls ∧ From w.heap.size vS) ∧ (WRow w' vW ws ∧ From w.heap.size vW) ∧ (SRow w' vG g ∧ From w.heap.size vG) ∧ (SRow w' vR l ∧ From w.heap.size vR) ∧ Below w.heap.size w w'

theorem argS_slice {w : World} {v : Value} (h : ArgS w v) : ∃ a n c, v = .slice a n c := by obtain ⟨a, n, c, e, _⟩ := h; exact ⟨a, n, c, e⟩
theorem argW_slice {w : World} {v : Value} (h : ArgW w v) : ∃ a n c, v = .slice a n c := by obtain ⟨a, n, c, e, _⟩ := h; exact ⟨a, n, c, e⟩

theorem Box.other7 {b g : Nat} {vs : List Value} {W : World} (h : Box b vs W) (hne : b ≠ g) (u0 u1 u2 u3 u4 u5 u6 : Value) : Box b vs
    (((((((W.setCell ⟨g, 0, none⟩ u0).setCell ⟨g, 1, none⟩ u1).setCell ⟨g, 2, none⟩ u2).setCell ⟨g, 3, none⟩ u3).setCell ⟨g, 4, none⟩ u4).setCell ⟨g, 5, none⟩ u5).setCell ⟨g, 6, none⟩ u6) :=
  ((((((h.other hne _).other hne _).other hne _).other hne _).other hne _).other hne _).other hne _

set_option maxHeartbeats 4000000 in
set_option maxRecDepth 100000 in
theorem few_any {vS vW vG vR : Value} {s h u : Int} {w : World} (hS : ArgS w vS) (hW : ArgW w vW) (hG : ArgS w vG) (hR : ArgS w vR) : Calls Tryz.prog 7 #[jv vS vW s h u vG vR] w (FewJ s h u w) := by
  have HD := Lib.hid (fun W (hb : Below w.heap.size w W) => disk_any (hS.below hb) (hW.below hb))
  have HT1 : Hid (∀ W, Below w.heap.size w W → Calls Tryz.prog 29 #[vG, .int .i64 (18 : Int)] W (TextsE 18 W)) := Lib.hid (fun W hb => texts_any 18 (by omega) (hG.below hb))
  have HT2 : Hid (∀ W, Below w.heap.size w W → Calls Tryz.prog 29 #[vR, .int .i64 (60 : Int)] W (TextsE 60 W)) := Lib.hid (fun W hb => texts_any 60 (by omega) (hR.below hb))
  obtain ⟨aS, nS, cS, rfl⟩ := argS_slice hS
  obtain ⟨aW, nW, cW, rfl⟩ := argW_slice hW
  obtain ⟨aG, nG, cG, rfl⟩ := argS_slice hG
  obtain ⟨aR, nR, cR, rfl⟩ := argS_slice hR
  have HA := Lib.hid (ASt.made w (.slice aS nS cS) (.slice aW nW cW) s h u (.slice aG nG cG) (.slice aR nR cR))
  clear hS hW hG hR
  unfold jv
  go_enter Tryz.func7, Tryz.ntmps7
  go_upto_region 1 with (fail)
  generalize ((w.alloc (.cells #[.slice aS nS cS, .slice aW nW cW, .int .i64 s, .int .i64 h, .int .i64 u, .slice aG nG cG, .slice aR nR cR] 27)).alloc _) = W at HA ⊢
  have HBD := Lib.hid ((Below.refl W.heap.size W).drew)
  have HWD := Lib.hid (below_trans HA.out.1 HBD.out)
  have HSF := Lib.hid (fun W' (hb : Below W.heap.size W W') => (HA.out.2.1.below hb).c7)
  obtain ⟨c0, c1, c2, c3, c4, c5, c6⟩ := HA.out.2.1.c7
  go_region_held3 (fun w' => w'.cell? ⟨w.heap.size, 0, none⟩ = some (.slice aS nS cS) ∧ w'.cell? ⟨w.heap.size, 1, none⟩ = some (.slice aW nW cW) ∧ w'.cell? ⟨w.heap.size, 2, none⟩ = some (.int .i64 s) ∧ w'.cell? ⟨w.heap.size, 3, none⟩ = some (.int .i64 h) ∧ w'.cell? ⟨w.heap.size, 4, none⟩ = some (.int .i64 u) ∧ w'.cell? ⟨w.heap.size, 5, none⟩ = some (.slice aG nG cG) ∧ w'.cell? ⟨w.heap.size, 6, none⟩ = some (.slice aR nR cR))
    (first | with_reducible exact HSF.out _ HBD.out | with_reducible exact HSF.out _ HB1.out | with_reducible exact HSF.out _ HB2.out | with_reducible exact HSF.out _ HB3.out | with_reducible exact HSE.out | fail)
    (first
      | (go_at_call 6; (with_reducible refine (HD.out _ HWD.out).mono ?_); rintro e V1 ⟨vS1, vW1, ls, ws, rfl, hl1, hl2, hl3, hl4, hS1, hW1, hv⟩; have HQ := Lib.hid (And.intro hl1 (And.intro hl2 (And.intro hl3 hl4))); have HDS := Lib.hid (And.intro hS1 hW1); obtain ⟨aS1, pS1, rfl⟩ := hS1.1.slice; obtain ⟨aW1, pW1, rfl⟩ := hW1.1.slice; have HV1 := Lib.hid hv; have HB1 := Lib.hid (below_trans HBD.out hv); have HW1 := Lib.hid (below_trans HWD.out hv); clear hv hl1 hl2 hl3 hl4 hS1 hW1)
      | (go_at_call 29; (with_reducible refine (HT1.out _ HW1.out).mono ?_); rintro e V2 ⟨vG1, g, rfl, hl1, hl2, hG1, hv⟩; have HQG := Lib.hid (And.intro hl1 hl2); have HDG := Lib.hid hG1; obtain ⟨aG1, pG1, rfl⟩ := hG1.1.slice; have HV2 := Lib.hid hv; have HB2 := Lib.hid (below_trans HB1.out hv); have HW2 := Lib.hid (below_trans HW1.out hv); clear hv hl1 hl2 hG1)
      | (go_at_call 29; (with_reducible refine (HT2.out _ HW2.out).mono ?_); rintro e V3 ⟨vR1, l, rfl, hl1, hl2, hR1, hv⟩; have HQR := Lib.hid (And.intro hl1 hl2); have HDR := Lib.hid hR1; obtain ⟨aR1, pR1, rfl⟩ := hR1.1.slice; have HV3 := Lib.hid hv; have HB3 := Lib.hid (below_trans HB2.out hv); have HW3 := Lib.hid (below_trans HW2.out hv); obtain ⟨f0, f1, f2, f3, f4, f5, f6⟩ := (HA.out.below HB3.out).2.2.f7; obtain ⟨r0, r1, r2, r3, r4, r5, r6⟩ := (HA.out.below HB3.out).2.2.c7; have HSE := Lib.hid ((Box.other7 (HA.out.below HB3.out).2.1 (by omega : w.heap.size ≠ w.heap.size + 1) (.slice aS1 ls.length pS1) (.slice aW1 ws.length pW1) (.int .i64 s) (.int .i64 h) (.int .i64 u) (.slice aG1 g.length pG1) (.slice aR1 l.length pR1)).c7); clear hv hl1 hl2 hR1)
      | fail)
  have hws := HA.out.1.size
  have s1 := HV1.out.size
  have s2 := HV2.out.size
  have s3 := HV3.out.size
  have hsd : W.drew.heap.size = W.heap.size := rfl
  have HEND := Lib.hid (je_end (k := 0) (s := s) (h := h) (u := u) HA.out.1 (by omega : w.heap.size ≤ w.heap.size + 1) (HA.out.2.2.1) HB3.out (HA.out.below HB3.out).2.2 ⟨(HDS.out.1.1.below HV2.out).below HV3.out, HDS.out.1.2⟩ ⟨(HDS.out.2.1.below HV2.out).below HV3.out, HDS.out.2.2⟩ ⟨HDG.out.1.below HV3.out, HDG.out.2.mono (by omega)⟩ ⟨HDR.out.1, HDR.out.2.mono (by omega)⟩)
  clear hws s1 s2 s3 hsd HSF HSE HBD HWD HB1 HB2 HB3 HW1 HW2 HW3 HV1 HV2 HV3 HDS HDG HDR HD HT1 HT2 HA
  go_wp2_with fail
  obtain ⟨z0, z1, z2, z3, z4, z5, z6⟩ := HEND.out.1.c7
  refine bodyPost_ret (v := jv (.slice aS1 ls.length pS1) (.slice aW1 ws.length pW1) s h u (.slice aG1 g.length pG1) (.slice aR1 l.length pR1)) (by simp [jv, results, Tryz.results7, go_sem, z0, z1, z2, z3, z4, z5, z6]) rfl ?_
  obtain ⟨y0, y1, y2, y3, he, k0, k1, k2, k3, k4⟩ := HEND.out.2
  cases he
  exact ⟨_, _, _, _, ls, ws, g, l, rfl, HQ.out, HQG.out, HQR.out, k0, k1, k2, k3, k4⟩
end Go.Proofs.YtlpkalfbcphkmaaGreat.Disk.Jn

/-
  Contract of the law's alive: a record that is sealed.
-/
namespace Go.Proofs.YtlpkalfbcphkmaaGreat.Disk.Jn
open Go.ChangeShapes Go.WideShapes Go.ChangeAt Go.RowKit Go.Lib
open Go.Proofs.YtlpkalfbcphkmaaGreat.Frame (frm frms)

def la : ByteArray := ⟨#[97]⟩
def j1 : JN := ⟨formL 8, [], 1, 0, 0, [], []⟩
def j2 : JN := ⟨formL 8, [], 1, 0, 0, [la], []⟩
theorem may1 : May j1 firstT := ⟨rfl, form_opens (by omega) (by omega), rfl, rfl, rfl, wait_zero.2 ⟨by simp [j1], by simp [j1], by simp [j1, frms], by simp [j1, frms, firstT]⟩⟩
theorem la_frm : (frms [la]).length = (frms [la]).length ∧ (frms [la]).length ≤ 100 := ⟨rfl, by decide +kernel⟩
theorem wait_la : waitE (formL 8).length firstT.used ([] ++ [la]) = 0 := wait_zero.2 ⟨by intro d hd; simp at hd; subst hd; decide, by simp, Nat.le_trans la_frm.2 (by omega), by rw [formL_len]; exact Nat.le_trans (Nat.add_le_add_left la_frm.2 _) (by decide)⟩
theorem may2 : May j2 firstT := ⟨rfl, form_opens (by omega) (by omega), rfl, rfl, rfl, wait_la⟩

theorem jrow_end {w W X : World} {b : Nat} {vS vW vG vR : Value} {ls g l : List ByteArray} {ws : List (Int × ByteArray)} {s h u : Int} (hB : Below w.heap.size w W) (hb : w.heap.size ≤ b) (hbW : b < W.heap.size) (hx : Below W.heap.size W X) {c0 c1 c2 c3 c4 c5 c6 : Value} (hbx : Box b [c0, c1, c2, c3, c4, c5, c6] X)
    (hS : SRow X vS ls ∧ From W.heap.size vS) (hW : WRow X vW ws ∧ From W.heap.size vW) (hG : SRow X vG g ∧ From W.heap.size vG) (hR : SRow X vR l ∧ From W.heap.size vR) :
    Box b [vS, vW, .int .i64 s, .int .i64 h, .int .i64 u, vG, vR] (((((((X.setCell ⟨b, 0, none⟩ vS).setCell ⟨b, 1, none⟩ vW).setCell ⟨b, 2, none⟩ (.int .i64 s)).setCell ⟨b, 3, none⟩ (.int .i64 h)).setCell ⟨b, 4, none⟩ (.int .i64 u)).setCell ⟨b, 5, none⟩ vG).setCell ⟨b, 6, none⟩ vR) ∧
    JRow (((((((X.setCell ⟨b, 0, none⟩ vS).setCell ⟨b, 1, none⟩ vW).setCell ⟨b, 2, none⟩ (.int .i64 s)).setCell ⟨b, 3, none⟩ (.int .i64 h)).setCell ⟨b, 4, none⟩ (.int .i64 u)).setCell ⟨b, 5, none⟩ vG).setCell ⟨b, 6, none⟩ vR) vS vW vG vR ⟨ls, ws, s, h, u, g, l⟩ ∧
    Below w.heap.size w (((((((X.setCell ⟨b, 0, none⟩ vS).setCell ⟨b, 1, none⟩ vW).setCell ⟨b, 2, none⟩ (.int .i64 s)).setCell ⟨b, 3, none⟩ (.int .i64 h)).setCell ⟨b, 4, none⟩ (.int .i64 u)).setCell ⟨b, 5, none⟩ vG).setCell ⟨b, 6, none⟩ vR) := by
  obtain ⟨hb', y0, y1, y2, y3, he, k0, k1, k2, k3, k4⟩ := je_end (k := 0) (s := s) (h := h) (u := u) hB hb hbW hx hbx hS hW hG hR
  cases he
  exact ⟨hb', ⟨k0.1, k1.1, k2.1, k3.1⟩, k4⟩

set_option maxHeartbeats 2000000 in
set_option maxRecDepth 100000 in
theorem alive_any (w : World) : Calls Tryz.prog 13 #[] w (BoolB true w) := by
  have HFO : Hid (∀ W, Calls Tryz.prog 14 #[.int .i64 (8 : Int)] W (JE (formL 8) [] 1 0 0 [] [] 0 W)) := Lib.hid (fun W => Format_yes 8 (by omega) (by omega) W)
  have HAP : Hid (∀ (W : World) vS vW vG vR, JRow W vS vW vG vR j1 → Calls Tryz.prog 16 #[.agg #[vS, vW, .int .i64 1, .int .i64 0, .int .i64 0, vG, vR], .string ⟨#[97]⟩] W (JE (formL 8) [] 1 0 0 [la] [] 0 W)) :=
    Lib.hid (fun W vS vW vG vR h => (Append_any h may1 la (by decide)).mono fun e x hx => hx.1 wait_la)
  have HCO : Hid (∀ (W : World) vS vW vG vR, JRow W vS vW vG vR j2 → Calls Tryz.prog 17 #[.agg #[vS, vW, .int .i64 1, .int .i64 0, .int .i64 0, vG, vR]] W (JE (sealedL (formL 8) firstT 0 0 (frms [la])) [] 2 0 (((frms [la]).length : Int)) [] [la] 0 W)) :=
    Lib.hid (fun W vS vW vG vR h => (Commit_any h may2).mono fun e x hx => by have := hx.2 (by decide); simpa [j2, firstT] using this)
  go_enter Tryz.func13, Tryz.ntmps13
  go_wp2_with fail
  refine (HFO.out _).mono ?_
  rintro e x ⟨vS, vW, vG, vR, rfl, hS, hW, hG, hR, hx⟩
  obtain ⟨aS, pS, rfl⟩ := hS.1.slice
  obtain ⟨aW, pW, rfl⟩ := hW.1.slice
  obtain ⟨aG, pG, rfl⟩ := hG.1.slice
  obtain ⟨aR, pR, rfl⟩ := hR.1.slice
  unfold jv
  go_upto_region 2 with (fail)
  have HK := Lib.hid (And.intro (Box.made x [.slice aS (formL 8).length pS, .slice aW ([] : List (Int × ByteArray)).length pW, .int .i64 1, .int .i64 0, .int .i64 0, .slice aG ([] : List ByteArray).length pG, .slice aR ([] : List ByteArray).length pR] 27) (And.intro (JRow.below (J := j1) ⟨hS.1, hW.1, hG.1, hR.1⟩ (al x (.cells #[.slice aS (formL 8).length pS, .slice aW ([] : List (Int × ByteArray)).length pW, .int .i64 1, .int .i64 0, .int .i64 0, .slice aG ([] : List ByteArray).length pG, .slice aR ([] : List ByteArray).length pR] 27))) (below_trans hx (al x (.cells #[.slice aS (formL 8).length pS, .slice aW ([] : List (Int × ByteArray)).length pW, .int .i64 1, .int .i64 0, .int .i64 0, .slice aG ([] : List ByteArray).length pG, .slice aR ([] : List ByteArray).length pR] 27)))))
  have hxs := hx.size
  clear hS hW hG hR hx
  simp only [List.length_nil] at HK ⊢
  generalize (formL 8).length = n8 at HK ⊢
  generalize hX : x.alloc _ = X at HK ⊢
  have hbX : x.heap.size < X.heap.size := HK.out.1.1
  clear hX
  generalize x.heap.size = b at HK hxs hbX ⊢
  obtain ⟨c0, c1, c2, c3, c4, c5, c6⟩ := HK.out.1.c7
  go_wp2_with fail
  refine (HAP.out _ _ _ _ _ HK.out.2.1).mono ?_
  rintro e y ⟨vS, vW, vG, vR, rfl, hS, hW, hG, hR, hy⟩
  obtain ⟨aS1, pS1, rfl⟩ := hS.1.slice
  obtain ⟨aW1, pW1, rfl⟩ := hW.1.slice
  obtain ⟨aG1, pG1, rfl⟩ := hG.1.slice
  obtain ⟨aR1, pR1, rfl⟩ := hR.1.slice
  have HY := Lib.hid (jrow_end (s := 1) (h := 0) (u := 0) HK.out.2.2 hxs hbX hy (HK.out.1.below hy) hS hW hG hR)
  obtain ⟨f0, f1, f2, f3, f4, f5, f6⟩ := (HK.out.1.below hy).f7
  obtain ⟨r0, r1, r2, r3, r4, r5, r6⟩ := (HK.out.1.below hy).c7
  have hys := hy.size
  clear hS hW hG hR hy c0 c1 c2 c3 c4 c5 c6
  unfold jv
  go_upto_region 3 with (fail)
  clear f0 f1 f2 f3 f4 f5 f6 r0 r1 r2 r3 r4 r5 r6 HK
  simp only [List.length_nil, List.length_singleton] at HY ⊢
  generalize (formL 8).length = m8 at HY ⊢
  generalize hZ : World.setCell _ ⟨b, 6, none⟩ _ = Z at HY ⊢
  have hbZ : b < Z.heap.size := HY.out.1.1
  clear hZ
  obtain ⟨c0, c1, c2, c3, c4, c5, c6⟩ := HY.out.1.c7
  go_wp2_with fail
  refine (HCO.out _ _ _ _ _ HY.out.2.1).mono ?_
  rintro e V ⟨vS, vW, vG, vR, rfl, hS, hW, hG, hR, hy⟩
  obtain ⟨aS2, pS2, rfl⟩ := hS.1.slice
  obtain ⟨aW2, pW2, rfl⟩ := hW.1.slice
  obtain ⟨aG2, pG2, rfl⟩ := hG.1.slice
  obtain ⟨aR2, pR2, rfl⟩ := hR.1.slice
  have HV := Lib.hid (jrow_end (s := 2) (h := 0) (u := ((frms [la]).length : Int)) HY.out.2.2 hxs hbZ hy (HY.out.1.below hy) hS hW hG hR)
  obtain ⟨f0, f1, f2, f3, f4, f5, f6⟩ := (HY.out.1.below hy).f7
  obtain ⟨r0, r1, r2, r3, r4, r5, r6⟩ := (HY.out.1.below hy).c7
  clear hS hW hG hR hy c0 c1 c2 c3 c4 c5 c6
  unfold jv
  go_upto_region 4 with (fail)
  clear f0 f1 f2 f3 f4 f5 f6 r0 r1 r2 r3 r4 r5 r6 HY
  simp only [List.length_nil, List.length_singleton] at HV ⊢
  generalize (sealedL (formL 8) firstT 0 0 (frms [la])).length = k8 at HV ⊢
  generalize hY : World.setCell _ ⟨b, 6, none⟩ _ = Y at HV ⊢
  clear hY
  have hrow := HV.out.2.1.rR
  obtain ⟨c0, c1, c2, c3, c4, c5, c6⟩ := HV.out.1.c7
  rcases hrow with ⟨_, h⟩ | ⟨g, cap, he, _, _, hc⟩
  · simp at h
  have h1 := hc 0 (by simp)
  simp at he
  obtain ⟨rfl, rfl⟩ := he
  simp at h1
  clear hc
  have hla : (la.toList == [97]) = true := by decide +kernel
  have HB := Lib.hid HV.out.2.2
  clear HV hxs hbX hbZ hys
  go_wp2_with fail
  go_ret
  exact ⟨rfl, HB.out⟩
end Go.Proofs.YtlpkalfbcphkmaaGreat.Disk.Jn
