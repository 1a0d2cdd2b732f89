/-
  Contracts of the reference's Know and Rule.
-/
import Derived.Test.YthhadeohabkleaaGRef1
namespace Go.Proofs.Ythhadeohabkleaa.Goods
open Go.ChangeShapes Go.WideShapes Go.ChangeAt Go.RowKit Go.Shelf

theorem putL_all {α : Type} {p : α → Bool} (x : α) : ∀ {l : List α}, l.all p = true → putL p x l = l ++ [x] ∧ l.takeWhile p = l ∧ l.dropWhile p = []
  | [], _ => ⟨rfl, rfl, rfl⟩
  | y :: l, h => by
    simp only [List.all_cons, Bool.and_eq_true] at h
    obtain ⟨_, h1, h2⟩ := putL_all x h.2
    unfold putL
    simp [h.1, h1, h2]
theorem putL_snoc {α : Type} {p : α → Bool} (x y : α) : ∀ {l : List α}, l.all p = false → putL p x (l ++ [y]) = putL p x l ++ [y]
  | [], h => by cases h
  | z :: l, h => by
    unfold putL
    by_cases hz : p z = true
    · have h2 : l.all p = false := by simpa [hz] using h
      have := putL_snoc x y h2
      unfold putL at this
      simp only [List.cons_append, List.takeWhile_cons, List.dropWhile_cons, hz, if_true]
      simpa using this
    · simp [hz]
theorem putL_last {α : Type} {p : α → Bool} (x y : α) {l : List α} (h : l.all p = true) (hy : p y = false) : putL p x (l ++ [y]) = (l ++ [x]) ++ [y] := by
  have hk : (l ++ [y]).take l.length = l := by simp
  rw [put_eq x (k := l.length) (by simp) (by rw [hk]; exact h) (fun hl => by simpa using hy)]
  simp
/-- What has been put so far. -/
def accL {α : Type} (p : α → Bool) (x : α) (l : List α) (k : Nat) : List α := if (l.take k).all p = true then l.take k else putL p x (l.take k)
theorem acc_yes {α : Type} {p : α → Bool} {x : α} {l : List α} {k : Nat} (hk : k < l.length) (h : (l.take k).all p = true) (hp : p l[k] = true) : accL p x l (k + 1) = accL p x l k ++ [l[k]] ∧ (l.take (k + 1)).all p = true := by
  have e : (l.take (k + 1)).all p = true := by rw [all_take hk, h, hp]; rfl
  unfold accL
  rw [if_pos e, if_pos h, List.take_succ_eq_append_getElem hk]
  exact ⟨rfl, by rw [← List.take_succ_eq_append_getElem hk]; exact e⟩
theorem acc_turn {α : Type} {p : α → Bool} {x : α} {l : List α} {k : Nat} (hk : k < l.length) (h : (l.take k).all p = true) (hp : p l[k] = false) : accL p x l (k + 1) = (accL p x l k ++ [x]) ++ [l[k]] ∧ (l.take (k + 1)).all p = false := by
  have e : (l.take (k + 1)).all p = false := by rw [all_take hk, h, hp]; rfl
  unfold accL
  rw [if_neg (by rw [e]; decide), if_pos h, List.take_succ_eq_append_getElem hk]
  exact ⟨putL_last x _ h hp, by rw [← List.take_succ_eq_append_getElem hk]; exact e⟩
theorem acc_no {α : Type} {p : α → Bool} {x : α} {l : List α} {k : Nat} (hk : k < l.length) (h : (l.take k).all p = false) : accL p x l (k + 1) = accL p x l k ++ [l[k]] ∧ (l.take (k + 1)).all p = false := by
  have e : (l.take (k + 1)).all p = false := by rw [all_take hk, h]; rfl
  unfold accL
  rw [if_neg (by rw [e]; decide), if_neg (by rw [h]; decide), List.take_succ_eq_append_getElem hk]
  exact ⟨putL_snoc x _ h, by rw [← List.take_succ_eq_append_getElem hk]; exact e⟩
theorem acc_end {α : Type} {p : α → Bool} {x : α} {l : List α} : (l.all p = true → putL p x l = accL p x l l.length ++ [x]) ∧ (l.all p = false → putL p x l = accL p x l l.length) := by
  unfold accL
  rw [List.take_length]
  constructor
  · intro h
    rw [if_pos h]
    exact (putL_all x h).1
  · intro h
    rw [if_neg (by rw [h]; decide)]
theorem acc_len {α : Type} (p : α → Bool) (x : α) (l : List α) (k : Nat) : (accL p x l k).length ≤ l.length + 1 := by
  unfold accL
  split
  · rw [List.length_take]; omega
  · rw [put_length, List.length_take]; omega

/-- Goods are returned; nothing that lay has turned. -/
def GoodsR (s : List ByteArray) (l : List Sb) (w : World) (e : Ending) (w' : World) : Prop := ∃ v u, e = .returned (.agg #[v, u]) ∧ GGood w' v u s l ∧ Below w.heap.size w w'
theorem below_one {W w : World} {b : Nat} (j : Nat) (u : Value) (h : Below W.heap.size W w) (hb : W.heap.size ≤ b) : Below W.heap.size W (w.setCell ⟨b, j, none⟩ u) := h.setCell hb u

set_option maxRecDepth 100000 in
set_option maxHeartbeats 4000000 in
theorem refKnow_any {v u : Value} {s : List ByteArray} {l : List Sb} {w : World} (h : GGood w v u s l) (hl : s.length ≤ 1000) (hs : ∀ x ∈ s, x.size ≤ 1000000) (k : ByteArray) (hk : k.size ≤ 1000000) : Calls Try.prog 17 #[.agg #[v, u], .string k] w (GoodsR (putL (fun o => !ltT k o) k s) l w) := by
  have H := Lib.hid h.1
  have HU := Lib.hid h.2
  have HC := Lib.hid (fun (x : ByteArray) (hx : x ∈ s) W => refLess_any k x hk (hs x hx) W)
  obtain ⟨a, cap, rfl⟩ := h.1.slice
  obtain ⟨a', cap', rfl⟩ := h.2.slice
  have hba := below_trans (al w (.cells #[.slice a s.length cap, .slice a' l.length cap'] 25)) (al _ (.cells #[.slice none 0 0, .slice none 0 0] 25))
  have hxa := (Box.made w [.slice a s.length cap, .slice a' l.length cap'] 25).below (al _ (.cells #[.slice none 0 0, .slice none 0 0] 25))
  have hxc := Box.made (w.alloc (.cells #[.slice a s.length cap, .slice a' l.length cap'] 25)) [.slice none 0 0, .slice none 0 0] 25
  simp only [World.size_alloc] at hxc
  obtain ⟨W0, hW0⟩ : ∃ W0, (w.alloc (.cells #[.slice a s.length cap, .slice a' l.length cap'] 25)).alloc (.cells #[.slice none 0 0, .slice none 0 0] 25) = W0 := ⟨_, rfl⟩
  have hsz : W0.heap.size = w.heap.size + 1 + 1 := by rw [← hW0]; simp only [World.size_alloc]
  have HXA : Hid (Box w.heap.size [.slice a s.length cap, .slice a' l.length cap'] W0) := Lib.hid (hW0 ▸ hxa)
  have HXC : Hid (Box (w.heap.size + 1) [.slice none 0 0, .slice none 0 0] W0) := Lib.hid (hW0 ▸ hxc)
  have HB0 : Hid (Below w.heap.size w W0) := Lib.hid (hW0 ▸ hba)
  have he := OwnT.empty W0 (Nat.le_refl _)
  have HA1 := Lib.hid (al W0 (.cells #[] 9))
  rw [hsz] at he
  have HE := Lib.hid he
  clear h hs hba hxa hxc he
  go_enter Try.func17, Try.ntmps17
  go_upto_region 1 with (fail)
  clear hW0
  obtain ⟨x0, x1⟩ := HXA.out.c2
  have hs0 := HXA.out.1
  go_wp2_with fail
  go_loopw [5, 6, 8, 13] (fun v d _ i wr => ∃ j : Nat, j ≤ s.length ∧ i = .int .i64 j ∧ d = .bool (!(s.take j).all (fun o => !ltT k o)) ∧ OwnT (w.heap.size + 1 + 1) v (accL (fun o => !ltT k o) k s j) wr ∧ Below (w.heap.size + 1 + 1) W0 wr) (fun _ _ _ i _ => s.length - (intOf i).toNat)
  case atStart => exact ⟨0, Nat.zero_le _, rfl, rfl, HE.out, hsz ▸ HA1.out⟩
  case round =>
    obtain ⟨j, hj, rfl, rfl, hown, hbe⟩ := hrel
    have hlen := acc_len (fun o => !ltT k o) k s j
    obtain ⟨av, nv, cv, rfl⟩ : ∃ a n c, u5 = .slice a n c := (by obtain ⟨a', c', e⟩ := hown.row.slice; exact ⟨a', _, c', e⟩)
    have HO := Lib.hid hown
    have HBE := Lib.hid hbe
    have HBW := Lib.hid (HB0.out.trans (hbe.mono (by omega)))
    have hszr : w.heap.size + 1 + 1 ≤ wr.heap.size := by have := hbe.size; omega
    clear hown hbe
    by_cases hlt : j < s.length
    · obtain ⟨b, off, rfl, _, _, hb, k0⟩ := (H.out.below HBW.out).at hlt
      have hc := HC.out s[j] (List.getElem_mem hlt)
      have HY := Lib.hid (fun a b => acc_yes (p := fun o => !ltT k o) (x := k) hlt a b)
      have HT := Lib.hid (fun a b => acc_turn (p := fun o => !ltT k o) (x := k) hlt a b)
      have HN := Lib.hid (fun a => acc_no (p := fun o => !ltT k o) (x := k) hlt a)
      generalize s[j] = x at *
      cases ha : (s.take j).all (fun o => !ltT k o) with
      | true =>
        rw [ha] at HY HT
        clear HN ha
        cases hm : ltT k x with
        | false =>
          rw [hm] at hc HY
          have HC1 := Lib.hid hc
          have HY1 := Lib.hid (HY.out rfl rfl)
          clear hc HY HT hm
          go_wp2_with fail
          (with_reducible refine (HC1.out _).mono ?_)
          rintro e w1 ⟨rfl, hz⟩
          have HZ1 := Lib.hid hz
          have hsz1 := hz.size
          clear hz
          have hone := TRow.one w1 x
          have HON2 := Lib.hid ((HO.out.below HZ1.out).below (al _ (.cells #[.string x] 9)))
          have HONE2 := Lib.hid hone
          have hs2 := (al w1 (.cells #[.string x] 9)).size
          clear hone
          go_wp2_with (at_builtin; refine wpList_append_T rfl _ _ rfl (w.heap.size + 1 + 1) _ (accL (fun o => !ltT k o) k s j) rfl HON2.out _ [x] rfl HONE2.out (by first | omega | (simp only [List.length_append, List.length_cons, List.length_nil]; omega)) (by simp) (by omega) ?_)
          intro v2 w2 hown hbel
          obtain ⟨a2, n2, c2, rfl⟩ : ∃ a n c, v2 = .slice a n c := (by obtain ⟨a', c', e⟩ := hown.row.slice; exact ⟨a', _, c', e⟩)
          have HO2 := Lib.hid hown
          have HZ2 := Lib.hid ((HZ1.out.mono (by omega)).trans ((al w1 (.cells #[.string x] 9)).mono (by omega) |>.trans hbel))
          have hsz2 := HZ2.out.size
          clear hown hbel
          go_wp2_with fail
          go_roundw
          case rel => exact ⟨j + 1, by omega, by go_num, by rw [HY1.out.2]; rfl, by rw [HY1.out.1]; exact HO2.out, HBE.out.trans HZ2.out⟩
          case measure => simp [intOf]; omega
        | true =>
          rw [hm] at hc HT
          have HC1 := Lib.hid hc
          have HY1 := Lib.hid (HT.out rfl rfl)
          clear hc HY HT hm
          go_wp2_with fail
          (with_reducible refine (HC1.out _).mono ?_)
          rintro e w1 ⟨rfl, hz⟩
          have HZ1 := Lib.hid hz
          have hsz1 := hz.size
          clear hz
          have hone := TRow.one w1 k
          have HON2 := Lib.hid ((HO.out.below HZ1.out).below (al _ (.cells #[.string k] 9)))
          have HONE2 := Lib.hid hone
          have hs2 := (al w1 (.cells #[.string k] 9)).size
          clear hone
          go_wp2_with (at_builtin; refine wpList_append_T rfl _ _ rfl (w.heap.size + 1 + 1) _ (accL (fun o => !ltT k o) k s j) rfl HON2.out _ [k] rfl HONE2.out (by first | omega | (simp only [List.length_append, List.length_cons, List.length_nil]; omega)) (by simp) (by omega) ?_)
          intro v2 w2 hown hbel
          obtain ⟨a2, n2, c2, rfl⟩ : ∃ a n c, v2 = .slice a n c := (by obtain ⟨a', c', e⟩ := hown.row.slice; exact ⟨a', _, c', e⟩)
          have HO2 := Lib.hid hown
          have HZ2 := Lib.hid ((HZ1.out.mono (by omega)).trans ((al w1 (.cells #[.string k] 9)).mono (by omega) |>.trans hbel))
          have hsz2 := HZ2.out.size
          clear hown hbel
          have hone := TRow.one w2 x
          have HON3 := Lib.hid (HO2.out.below (al _ (.cells #[.string x] 9)))
          have HONE3 := Lib.hid hone
          have hs3 := (al w2 (.cells #[.string x] 9)).size
          clear hone
          go_wp2_with (at_builtin; refine wpList_append_T rfl _ _ rfl (w.heap.size + 1 + 1) _ (accL (fun o => !ltT k o) k s j ++ [k]) rfl HON3.out _ [x] rfl HONE3.out (by first | omega | (simp only [List.length_append, List.length_cons, List.length_nil]; omega)) (by simp) (by omega) ?_)
          intro v3 w3 hown hbel
          obtain ⟨a3, n3, c3, rfl⟩ : ∃ a n c, v3 = .slice a n c := (by obtain ⟨a', c', e⟩ := hown.row.slice; exact ⟨a', _, c', e⟩)
          have HO3 := Lib.hid hown
          have HZ3 := Lib.hid (HZ2.out.trans ((al w2 (.cells #[.string x] 9)).mono (by omega) |>.trans hbel))
          have hsz3 := HZ3.out.size
          clear hown hbel
          go_wp2_with fail
          go_roundw
          case rel => exact ⟨j + 1, by omega, by go_num, by rw [HY1.out.2]; rfl, by rw [HY1.out.1, List.append_assoc]; exact HO3.out, HBE.out.trans HZ3.out⟩
          case measure => simp [intOf]; omega
      | false =>
        rw [ha] at HN
        have HY1 := Lib.hid (HN.out rfl)
        clear HN HY HT hc ha
        have hone := TRow.one wr x
        have HON2 := Lib.hid (HO.out.below (al _ (.cells #[.string x] 9)))
        have HONE2 := Lib.hid hone
        have hs2 := (al wr (.cells #[.string x] 9)).size
        clear hone
        go_wp2_with (at_builtin; refine wpList_append_T rfl _ _ rfl (w.heap.size + 1 + 1) _ (accL (fun o => !ltT k o) k s j) rfl HON2.out _ [x] rfl HONE2.out (by first | omega | (simp only [List.length_append, List.length_cons, List.length_nil]; omega)) (by simp) (by omega) ?_)
        intro v2 w2 hown hbel
        obtain ⟨a2, n2, c2, rfl⟩ : ∃ a n c, v2 = .slice a n c := (by obtain ⟨a', c', e⟩ := hown.row.slice; exact ⟨a', _, c', e⟩)
        have HO2 := Lib.hid hown
        have HZ2 := Lib.hid (((al wr (.cells #[.string x] 9)).mono (by omega) |>.trans hbel))
        have hsz2 := HZ2.out.size
        clear hown hbel
        go_wp2_with fail
        go_roundw
        case rel => exact ⟨j + 1, by omega, by go_num, by rw [HY1.out.2]; rfl, by rw [HY1.out.1]; exact HO2.out, HBE.out.trans HZ2.out⟩
        case measure => simp [intOf]; omega
    · obtain rfl : j = s.length := by omega
      have HEND := Lib.hid (acc_end (p := fun o => !ltT k o) (x := k) (l := s))
      rw [List.take_length]
      cases ha : s.all (fun o => !ltT k o) with
      | true =>
        have HP := Lib.hid (HEND.out.1 ha)
        clear ha HEND
        have hone := TRow.one wr k
        have HON2 := Lib.hid (HO.out.below (al _ (.cells #[.string k] 9)))
        have HONE2 := Lib.hid hone
        have hs2 := (al wr (.cells #[.string k] 9)).size
        clear hone
        go_wp2_with (at_builtin; refine wpList_append_T rfl _ _ rfl (w.heap.size + 1 + 1) _ (accL (fun o => !ltT k o) k s s.length) rfl HON2.out _ [k] rfl HONE2.out (by first | omega | (simp only [List.length_append, List.length_cons, List.length_nil]; omega)) (by simp) (by omega) ?_)
        intro v2 w2 hown hbel
        obtain ⟨a2, n2, c2, rfl⟩ : ∃ a n c, v2 = .slice a n c := (by obtain ⟨a', c', e⟩ := hown.row.slice; exact ⟨a', _, c', e⟩)
        have HO2 := Lib.hid hown
        have HZ2 := Lib.hid (((al wr (.cells #[.string k] 9)).mono (by omega) |>.trans hbel))
        have hsz2 := HZ2.out.size
        clear hown hbel
        have HV := Lib.hid (HBE.out.trans HZ2.out)
        have HR := HO2
        rw [← HP.out] at HR
        obtain ⟨q0, q1⟩ := (HXC.out.below (hsz.symm ▸ HV.out)).c2
        obtain ⟨r0, r1⟩ := (HXC.out.below (hsz.symm ▸ HV.out)).z2
        have hsc := (HXC.out.below (hsz.symm ▸ HV.out)).1
        obtain ⟨p0, p1⟩ := (HXA.out.below (hsz.symm ▸ HV.out)).c2
        obtain ⟨t0, t1⟩ := (HXA.out.below (hsz.symm ▸ HV.out)).z2
        have hsa := (HXA.out.below (hsz.symm ▸ HV.out)).1
        have HW := Lib.hid (HB0.out.trans (HV.out.mono (by omega)))
        have HFAR := Lib.hid (HR.out.far (by omega : w.heap.size < w.heap.size + 1 + 1))
        have HFAR2 := Lib.hid (HR.out.far (by omega : w.heap.size + 1 < w.heap.size + 1 + 1))
        have HROW := Lib.hid (fun (y0 y1 y2 : Value) => (And.intro (((HR.out.row.apart (j := 0) (u := y0) HFAR.out).apart (j := 0) (u := y1) HFAR2.out).apart (j := 1) (u := y2) HFAR2.out) (HU.out.below (below_two (b := w.heap.size + 1) y1 y2 (below_one (b := w.heap.size) 0 y0 HW.out (Nat.le_refl _)) (by omega))) : GGood _ _ _ _ _))
        have HEE := Lib.hid (fun (y0 y1 y2 : Value) => below_two (b := w.heap.size + 1) y1 y2 (below_one (b := w.heap.size) 0 y0 HW.out (Nat.le_refl _)) (by omega))
        go_wp2_with fail
        exact bodyPost_ret (by simp [results, Try.results17, go_sem, q0, q1]) rfl ⟨_, _, rfl, HROW.out _ _ _, HEE.out _ _ _⟩
      | false =>
        have HP := Lib.hid (HEND.out.2 ha)
        clear ha HEND
        have HV := HBE
        have HR := HO
        rw [← HP.out] at HR
        obtain ⟨q0, q1⟩ := (HXC.out.below (hsz.symm ▸ HV.out)).c2
        obtain ⟨r0, r1⟩ := (HXC.out.below (hsz.symm ▸ HV.out)).z2
        have hsc := (HXC.out.below (hsz.symm ▸ HV.out)).1
        obtain ⟨p0, p1⟩ := (HXA.out.below (hsz.symm ▸ HV.out)).c2
        obtain ⟨t0, t1⟩ := (HXA.out.below (hsz.symm ▸ HV.out)).z2
        have hsa := (HXA.out.below (hsz.symm ▸ HV.out)).1
        have HW := Lib.hid (HB0.out.trans (HV.out.mono (by omega)))
        have HFAR := Lib.hid (HR.out.far (by omega : w.heap.size < w.heap.size + 1 + 1))
        have HFAR2 := Lib.hid (HR.out.far (by omega : w.heap.size + 1 < w.heap.size + 1 + 1))
        have HROW := Lib.hid (fun (y0 y1 y2 : Value) => (And.intro (((HR.out.row.apart (j := 0) (u := y0) HFAR.out).apart (j := 0) (u := y1) HFAR2.out).apart (j := 1) (u := y2) HFAR2.out) (HU.out.below (below_two (b := w.heap.size + 1) y1 y2 (below_one (b := w.heap.size) 0 y0 HW.out (Nat.le_refl _)) (by omega))) : GGood _ _ _ _ _))
        have HEE := Lib.hid (fun (y0 y1 y2 : Value) => below_two (b := w.heap.size + 1) y1 y2 (below_one (b := w.heap.size) 0 y0 HW.out (Nat.le_refl _)) (by omega))
        go_wp2_with fail
        exact bodyPost_ret (by simp [results, Try.results17, go_sem, q0, q1]) rfl ⟨_, _, rfl, HROW.out _ _ _, HEE.out _ _ _⟩
end Go.Proofs.Ythhadeohabkleaa.Goods
