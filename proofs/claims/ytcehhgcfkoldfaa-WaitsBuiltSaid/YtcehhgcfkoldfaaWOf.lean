/-
  Contract of package waits: Of.
-/
import Derived.Test.YtcehhgcfkoldfaaWMove
import Derived.Test.YtcehhgcfkoldfaaWQ
namespace Go.Proofs.Ytcehhgcfkoldfaa.Waits
open Go.ChangeShapes Go.WideShapes Go.ChangeAt Go.RowKit Go.Shelf
open Go.Proofs.Ytcehhgcfkoldfaa.Goods
open Go.Proofs.Ytcehhgcfkoldfaa.Queue (Wt ltB wv QRow OwnQ)

/-- What is sought: ahead of all of its name that may be. -/
def seek (k : ByteArray) : Ln := ⟨k, ⟨0, 0, 0⟩⟩
theorem seek_name {l : List Ln} (h : RightP l) (k : ByteArray) {j : Nat} (hj : j < l.length) (hp : j < posI (seek k) l) : l[j].k ≠ k := by
  have h1 := posI_lt (seek k) l j hj hp
  have hm := h.1.2.1 _ (List.getElem_mem hj)
  intro e
  rw [ltL_eq (show l[j].k = (seek k).k from e)] at h1
  have h2 := Queue.ltB_t.1 h1
  have h3 : mayW l[j].w = true := by
    unfold mayL at hm
    exact (Bool.and_eq_true_iff.1 hm).2
  have h4 := of_decide_eq_true h3
  unfold Queue.ltP seek at h2
  simp only at h2
  omega
/-- Behind one of another name none of that name stands. -/
theorem seek_end {l : List Ln} (h : RightP l) (k : ByteArray) {j i : Nat} (hj : j < l.length) (hp : posI (seek k) l ≤ j) (hne : l[j].k ≠ k) (hi : i < l.length) (hji : j ≤ i) : l[i].k ≠ k := by
  have h0 : ltL l[j] (seek k) = false := by
    have hp' : posI (seek k) l < l.length := by omega
    have ha := posI_at (seek k) l hp'
    by_cases e : posI (seek k) l = j
    · subst e; exact ha
    · exact ge_trans ha (List.pairwise_iff_getElem.1 h.srt _ _ hp' hj (by omega))
  have h1 : ltT l[j].k k = false := (ltL_f.1 h0).1
  have h2 : ltT k l[j].k = true := by
    cases hc : ltT k l[j].k with
    | true => rfl
    | false => exact absurd (ltT_total h1 hc) hne
  intro e
  by_cases eij : j = i
  · subst eij; exact hne e
  · have h3 := List.pairwise_iff_getElem.1 h.2 j i hj hi (by omega)
    rcases ltL_t.1 h3 with h4 | ⟨h4, _⟩
    · rw [e] at h4
      have := ltT_trans h2 h4
      rw [ltT_self] at this
      cases this
    · exact hne (h4.trans e)
theorem of_cut {l : List Ln} (h : RightP l) (k : ByteArray) {p q : Nat} (hp : posI (seek k) l = p) (hq : p + q ≤ l.length) (hk : ∀ j (_ : j < l.length), p ≤ j → j < p + q → l[j].k = k) (he : ∀ hj : p + q < l.length, l[p + q].k ≠ k) : ((l.drop p).take q).map Ln.w = ofL l k := by
  subst hp
  unfold ofL
  congr 1
  have e1 : l = l.take (posI (seek k) l) ++ ((l.drop (posI (seek k) l)).take q ++ (l.drop (posI (seek k) l)).drop q) := by rw [List.take_append_drop, List.take_append_drop]
  have f1 : (l.take (posI (seek k) l)).filter (fun y => decide (y.k = k)) = [] := List.filter_eq_nil_iff.2 fun y hy => by
    obtain ⟨j, hj, rfl⟩ := List.mem_take_iff_getElem.1 hy
    simpa using seek_name h k (by omega) (by omega)
  have f2 : ((l.drop (posI (seek k) l)).take q).filter (fun y => decide (y.k = k)) = (l.drop (posI (seek k) l)).take q := List.filter_eq_self.2 fun y hy => by
    obtain ⟨j, hj, rfl⟩ := List.mem_take_iff_getElem.1 hy
    rw [List.length_drop] at hj
    rw [List.getElem_drop]
    simpa using hk (posI (seek k) l + j) (by omega) (by omega) (by omega)
  have f3 : ((l.drop (posI (seek k) l)).drop q).filter (fun y => decide (y.k = k)) = [] := List.filter_eq_nil_iff.2 fun y hy => by
    rw [List.drop_drop] at hy
    obtain ⟨j, hj, rfl⟩ := List.mem_iff_getElem.1 hy
    rw [List.length_drop] at hj
    rw [List.getElem_drop]
    have hlt : posI (seek k) l + q < l.length := by omega
    simpa using seek_end h k hlt (by omega) (he hlt) (i := posI (seek k) l + q + j) (by omega) (by omega)
  conv => rhs; rw [e1]
  rw [List.filter_append, List.filter_append, f1, f2, f3, List.nil_append, List.append_nil]

/-- Waits and an error are returned. -/
def WaitsE (l : List Wt) (z : Int) (w : World) (e : Ending) (w' : World) : Prop := ∃ v, e = .returned (.tuple #[v, .int .i64 z]) ∧ QRow w' v l ∧ Below w.heap.size w w'
def ofE (l : List Ln) : Int := if Waits.rightB l = false then 1 else 0
def ofO (l : List Ln) (k : ByteArray) : List Wt := if Waits.rightB l = false then [] else ofL l k
def OfS (l d : List Ln) (p : Nat) (k : ByteArray) (q : Nat) (u : Value) (w W : World) : Prop := (∀ j (_ : j < l.length), p ≤ j → j < p + q → l[j].k = k) ∧ OwnQ w.heap.size u ((d.take q).map Ln.w) W ∧ Below w.heap.size w W
theorem qnil (w : World) : QRow w (.slice none 0 0) [] := ⟨none, 0, rfl, Nat.le_refl _, by omega, fun h => absurd h (Nat.lt_irrefl _)⟩

set_option maxRecDepth 100000 in
set_option maxHeartbeats 2000000 in
theorem Of_any {v : Value} {l : List Ln} {w : World} (h : LRow w v l) (hl : Brief l) (k : ByteArray) : Calls Try.prog 23 #[v, .string k] w (WaitsE (ofO l k) (ofE l) w) := by
  have hr := Waits.Right_any h hl
  have hlen := hl.1
  unfold ofO ofE
  cases e1 : Waits.rightB l with
  | false =>
    rw [e1] at hr
    have HR := Lib.hid hr
    obtain ⟨a, cap, rfl⟩ := h.slice
    clear h hl hr e1
    go_enter Try.func23, Try.ntmps23
    go_wp2_with fail
    (with_reducible refine HR.out.mono ?_)
    rintro e w1 ⟨rfl, hz⟩
    have HZ := Lib.hid hz
    clear hz
    go_wp2_with fail
    go_ret2
    exact ⟨_, rfl, qnil _, HZ.out⟩
  | true =>
    rw [if_neg (by simp), if_neg (by simp)]
    have hR := rightB_t.1 e1
    rw [e1] at hr
    have HR := Lib.hid hr
    have HPL := Lib.hid (fun W (hb : Below w.heap.size w W) => Waits.place_any (h.below hb) hlen hR.srt (seek k))
    have hk := posI_le (seek k) l
    have HCUT := Lib.hid (fun q => of_cut hR k (q := q) rfl)
    have H := Lib.hid h
    obtain ⟨a, cap, rfl⟩ := h.slice
    obtain ⟨hlc, hcap⟩ := h.cap.2
    generalize posI (seek k) l = p at *
    unfold lv seek at HPL
    clear h hl hr e1 hR
    have c1 : (0 : Int) ≤ p := by omega
    have c2 : (p : Int) ≤ l.length := by omega
    have c3 : (p : Int) ≤ cap := by omega
    have c4 : (l.length : Int) ≤ cap := by omega
    by_cases hlt : p < l.length
    · obtain ⟨b, off, rfl, _, _, hb, _⟩ := H.out.at hlt
      have hd := H.out.cut hlt
      obtain ⟨d, hdd⟩ : ∃ d, l.drop p = d := ⟨_, rfl⟩
      have HNM : Hid (∀ q (hq : q < d.length) (hpq : p + q < l.length), l[p + q] = d[q]) := Lib.hid (by subst hdd; exact fun q hq hpq => (List.getElem_drop (xs := l) (i := p) (j := q) (h := hq)).symm)
      have HDN : Hid (d.length = l.length - p) := Lib.hid (by rw [← hdd, List.length_drop])
      have HDL : Hid (p + d.length = l.length) := Lib.hid (by rw [← hdd, List.length_drop]; omega)
      rw [hdd] at hd HCUT
      have HD := Lib.hid hd
      clear hd hdd
      have c5 : (cap = p) = False := eq_false (by omega)
      go_enter Try.func23, Try.ntmps23
      go_wp2_with fail
      (with_reducible refine HR.out.mono ?_)
      rintro e w1 ⟨rfl, hz⟩
      have HZ := Lib.hid hz
      clear hz
      go_wp2_with fail
      (with_reducible refine (HPL.out _ HZ.out).mono ?_)
      rintro e w2 ⟨rfl, hz⟩
      have HZ2 := Lib.hid (below_trans HZ.out hz)
      clear hz
      clear c1 c2 c3 c4
      go_wp2_with fail
      generalize off + p * 4 = off' at *
      generalize cap - p = cap' at *
      generalize l.length - p = n at *
      obtain rfl := HDN.out
      go_loopw [6, 8, 19] (fun u _ i wr => ∃ q : Nat, q ≤ d.length ∧ i = .int .i64 q ∧ OfS l d p k q u w wr) (fun _ _ i _ => d.length - (Go.RowKit.intOf i).toNat)
      case atStart => exact ⟨0, Nat.zero_le _, rfl, ⟨fun j _ h1 h2 => by omega, World.ownsRow_nil _ _ _ _, HZ2.out⟩⟩
      case round =>
        obtain ⟨q, hq, rfl, hr⟩ := hrel
        obtain ⟨ua, un, uc, rfl⟩ : ∃ a n c, u6 = .slice a n c := (by obtain ⟨a', c', e⟩ := hr.2.1.row.slice; exact ⟨a', _, c', e⟩)
        have HS := Lib.hid hr
        clear hr
        by_cases hql : q < d.length
        · obtain ⟨b', off2, ebo, hlc', hcap', hb', k0, k1, k2, k3⟩ := (HD.out.below HS.out.2.2).at hql
          cases ebo
          have HTK : Hid ((d.take (q + 1)).map Ln.w = (d.take q).map Ln.w ++ [d[q].w]) := Lib.hid (by rw [List.take_succ_eq_append_getElem hql, List.map_append]; rfl)
          have hlen2 : ((d.take q).map Ln.w).length = q := by rw [List.length_map, List.length_take]; omega
          have HLEN := Lib.hid hlen2
          have HPQ : Hid (p + q < l.length) := Lib.hid (by have := HDL.out; omega)
          have HNX : Hid (l[p + q]'HPQ.out = d[q]) := Lib.hid (HNM.out q hql HPQ.out)
          generalize d[q] = x at *
          clear hlen2
          by_cases he : x.k = k
          · have kk := bytes_yes he
            have HE := Lib.hid he
            have hba := al wr (.cells #[.string x.k, .int .i64 x.w.c, .int .i64 x.w.s, .int .i64 x.w.o] 26)
            have hbb := al (wr.alloc (.cells #[.string x.k, .int .i64 x.w.c, .int .i64 x.w.s, .int .i64 x.w.o] 26)) (.cells #[.int .i64 x.w.c, .int .i64 x.w.s, .int .i64 x.w.o] 24)
            have hone := Queue.row_one (wr.alloc (.cells #[.string x.k, .int .i64 x.w.c, .int .i64 x.w.s, .int .i64 x.w.o] 26)) x.w
            simp only [World.size_alloc] at hone
            have HO2 := Lib.hid ((HS.out.2.1.below hba).below hbb)
            have HW2 := Lib.hid (below_trans HS.out.2.2 (below_trans hba hbb))
            have HONE := Lib.hid hone
            have hsz := HW2.out.size
            clear hba hbb hone he
            go_wp2_with (at_builtin; refine Queue.wpList_append_waits rfl _ _ rfl w.heap.size _ ((d.take q).map Ln.w) rfl HO2.out _ _ [x.w] 1 rfl rfl HONE.out (by have := HDL.out; rw [HLEN.out]; omega) (by simp) hsz ?_)
            intro v' w3 hown hbel
            obtain ⟨va, vn, vc, rfl⟩ : ∃ a n c, v' = .slice a n c := (by obtain ⟨a', c', e⟩ := hown.row.slice; exact ⟨a', _, c', e⟩)
            have HR3 := Lib.hid (show OfS l d p k (q + 1) (.slice va vn vc) w w3 from ⟨fun j hj h1 h2 => by
              by_cases e : j = p + q
              · subst e; rw [HNX.out]; exact HE.out
              · exact HS.out.1 j hj h1 (by omega), by rw [HTK.out, List.map_take]; exact hown, HW2.out.trans hbel⟩)
            clear hown hbel
            go_wp2_with fail
            go_roundw
            case rel => exact ⟨q + 1, by omega, by go_num, HR3.out⟩
            case measure => simp [intOf]; omega
          · have kk := bytes_no he
            have HCU := Lib.hid (HCUT.out q (by have := HPQ.out; omega) HS.out.1 (fun _ => by rw [HNX.out]; exact he))
            have hba := al wr (.cells #[.string x.k, .int .i64 x.w.c, .int .i64 x.w.s, .int .i64 x.w.o] 26)
            have HW2 := Lib.hid (below_trans HS.out.2.2 hba)
            have HO2 := Lib.hid ((HS.out.2.1.below hba).row)
            clear hba he
            go_wp2_with fail
            go_ret2
            exact ⟨_, rfl, by rw [← HCU.out]; exact HO2.out, HW2.out⟩
        · obtain rfl : q = d.length := by omega
          have HCU := Lib.hid (HCUT.out d.length (by have := HDL.out; omega) HS.out.1 (fun h => by have := HDL.out; omega))
          go_wp2_with fail
          go_ret2
          exact ⟨_, rfl, by rw [← HCU.out]; exact HS.out.2.1.row, HS.out.2.2⟩
    · obtain rfl : p = l.length := by omega
      have HCU := Lib.hid (HCUT.out 0 (Nat.le_refl _) (fun j hj h1 h2 => by omega) (fun h => by omega))
      rw [List.take_zero, List.map_nil] at HCU
      rw [← HCU.out]
      clear HCUT HCU hlt
      cases a with
      | none =>
        obtain ⟨rfl, _⟩ := H.out.naught
        simp only [List.length_nil] at HR HPL
        go_enter Try.func23, Try.ntmps23
        go_wp2_with fail
        (with_reducible refine HR.out.mono ?_)
        rintro e w1 ⟨rfl, hz⟩
        have HZ := Lib.hid hz
        clear hz
        go_wp2_with fail
        (with_reducible refine (HPL.out _ HZ.out).mono ?_)
        rintro e w2 ⟨rfl, hz⟩
        have HZ2 := Lib.hid (below_trans HZ.out hz)
        clear hz
        go_wp2_with fail
        refine wp_loop_rounds 1 ?_
        rw [rounds_succ]
        go_wp2_with fail
        go_ret2
        exact ⟨_, rfl, qnil _, HZ2.out⟩
      | some ad =>
        obtain ⟨b, off, sp⟩ := ad
        by_cases hcl : cap = l.length
        · subst hcl
          go_enter Try.func23, Try.ntmps23
          go_wp2_with fail
          (with_reducible refine HR.out.mono ?_)
          rintro e w1 ⟨rfl, hz⟩
          have HZ := Lib.hid hz
          clear hz
          go_wp2_with fail
          (with_reducible refine (HPL.out _ HZ.out).mono ?_)
          rintro e w2 ⟨rfl, hz⟩
          have HZ2 := Lib.hid (below_trans HZ.out hz)
          clear hz
          go_wp2_with fail
          refine wp_loop_rounds 1 ?_
          rw [rounds_succ]
          go_wp2_with fail
          go_ret2
          exact ⟨_, rfl, qnil _, HZ2.out⟩
        · have c5 : (cap = l.length) = False := eq_false hcl
          go_enter Try.func23, Try.ntmps23
          go_wp2_with fail
          (with_reducible refine HR.out.mono ?_)
          rintro e w1 ⟨rfl, hz⟩
          have HZ := Lib.hid hz
          clear hz
          go_wp2_with fail
          (with_reducible refine (HPL.out _ HZ.out).mono ?_)
          rintro e w2 ⟨rfl, hz⟩
          have HZ2 := Lib.hid (below_trans HZ.out hz)
          clear hz
          go_wp2_with fail
          refine wp_loop_rounds 1 ?_
          rw [rounds_succ]
          go_wp2_with fail
          go_ret2
          exact ⟨_, rfl, qnil _, HZ2.out⟩
end Go.Proofs.Ytcehhgcfkoldfaa.Waits
