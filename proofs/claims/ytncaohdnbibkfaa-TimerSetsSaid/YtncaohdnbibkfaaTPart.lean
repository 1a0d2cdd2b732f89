/-
  A row of timers parted in two, by any function value (parted): those of which it holds, and the others, each in order.
-/
import Derived.Test.YtncaohdnbibkfaaTHand
import Derived.Maps.AppendAt
namespace Go.Proofs.Ytncaohdnbibkfaa.Timer
open Go.ChangeShapes Go.WideShapes Go.ChangeAt Go.RowKit Go.Shelf Go.Lib
open Go.Proofs.Ytncaohdnbibkfaa.Queue

/-- Rows that lie apart. -/
def Apart (u v : Value) : Prop := u.ownBlock = none ∨ u.ownBlock ≠ v.ownBlock
/-- One is appended to a row of the call's own, beside another one. -/
theorem wpList_append_M_beside {w : World} {ops : Array Oper} {rest : List Oper} {o : Oper} {a : Act} {Q : Exit → Act → World → Prop} (hgd : o.guard = none) (s y : Operand)
    (ho : o.op = .call { callee := .builtin .append, args := #[s, y], argTypes := #[22, 22] })
    (base : Nat) (v : Value) (l0 : List Wt) (hs : a.eval s = v) (hown : OwnM base v l0 w) (ad : Addr) (x : Wt) (hy : a.eval y = .slice (some ad) 1 1) (hrow : QRow w (.slice (some ad) 1 1) [x]) (h0 : l0.length ≤ 1000) (hbase : base ≤ w.heap.size)
    {B2 : Nat} {u : Value} {m : List Wt} (hu : OwnM B2 u m w) (hne : Apart u v)
    (h : ∀ v' w', OwnM base v' (l0 ++ [x]) w' → Below base w w' → OwnM B2 u m w' → Apart u v' → Apart v' u → wpList Try.prog ops Q rest (a.put o.dst v') w') : wpList Try.prog ops Q (o :: rest) a w := by
  obtain ⟨i0, hi, hz0, hz1, hz2⟩ := info_parts infoM
  refine wpList_append_own_at w hgd s y 22 ho base 24 i0 (.agg #[.int .i64 0, .int .i64 0, .int .i64 0]) 3 24 Try.underlying22 hi hz0 hz1 hz2 rfl (by decide) v l0.length (mcells l0) hs hown ad 1 1 (mcells [x]) hy rfl (news_M (show QRow w (.slice (some ad) [x].length 1) [x] from hrow)) (mcells_one [x]) (by unfold maxLen; omega) (by omega) hbase ?_
  intro v' w1 hown' hgrow _ hat
  have hap : Apart u v' := by
    rcases hne with hne | hne
    · exact .inl hne
    · rcases hat with e | e
      · exact .inr (by rw [e]; exact hne)
      · cases hc : u.ownBlock with
        | none => exact .inl hc
        | some k =>
          refine .inr fun e2 => ?_
          rw [hc, e] at e2
          cases e2
          have := (World.ownsRow.lt hu _ hc).2
          omega
  have hap2 : Apart v' u := by
    rcases hap with e | e
    · cases hc : v'.ownBlock with
      | none => exact .inl hc
      | some k => exact .inr (by rw [hc, e]; exact fun h => by cases h)
    · exact .inr (fun h => e h.symm)
  refine h v' w1 ?_ ((show Below base w w from Below.refl _ _).grown hgrow hbase (fun j hj => (hown.lt j hj).1)) (World.ownsRow.kept hu hgrow hne) hap hap2
  unfold OwnM
  rw [mcells_append, List.length_append]
  exact hown'
theorem OwnM.nil (B : Nat) (w : World) : OwnM B (.slice none 0 0) [] w := World.ownsRow_nil w B 24 3

theorem filter_take {α : Type} {p : α → Bool} {l : List α} {k : Nat} (h : k < l.length) : (l.take (k + 1)).filter p = (l.take k).filter p ++ (if p l[k] = true then [l[k]] else []) := by
  rw [List.take_succ_eq_append_getElem h, List.filter_append, List.filter_cons]
  rfl
/-- Both rows are returned. -/
def PartE (a b : List Wt) (w : World) (e : Ending) (w' : World) : Prop := ∃ u v, e = .returned (.tuple #[u, v]) ∧ OwnM w.heap.size u a w' ∧ OwnM w.heap.size v b w' ∧ Below w.heap.size w w'
def PartR (p : Wt → Bool) (l : List Wt) (k : Nat) (u v : Value) (w W : World) : Prop := OwnM w.heap.size u ((l.take k).filter p) W ∧ OwnM w.heap.size v ((l.take k).filter (fun y => !p y)) W ∧ Apart u v ∧ Apart v u ∧ Below w.heap.size w W
theorem filter_len {α : Type} (p : α → Bool) (l : List α) (k : Nat) : ((l.take k).filter p).length ≤ l.length := by
  have h1 := List.length_filter_le p (l.take k)
  rw [List.length_take] at h1
  omega

set_option maxRecDepth 100000 in
set_option maxHeartbeats 2000000 in
theorem parted_any {v : Value} {l : List Wt} {w : World} (n : Nat) (he : Enters n) (cs : Array Value) (p : Wt → Bool) (hp : ∀ x ∈ l, ∀ W, Below w.heap.size w W → Calls Try.prog n (#[wv x] ++ cs) W (BoolB (p x) W)) (h : QRow w v l) (hl : l.length ≤ 1000) : Calls Try.prog 20 #[v, .func (.func n) #[] cs] w (PartE (l.filter p) (l.filter (fun y => !p y)) w) := by
  obtain ⟨a, cap, rfl⟩ := h.slice
  have H := Lib.hid h
  have HP := Lib.hid hp
  have HL := Lib.hid hl
  unfold Enters at he
  clear h hp hl
  go_enter Try.func20, Try.ntmps20
  go_wp2
  go_loopw [4, 5, 7, 10] (fun u v _ i wr => ∃ k : Nat, k ≤ l.length ∧ i = .int .i64 k ∧ PartR p l k u v w wr) (fun _ _ _ i _ => l.length - (Go.RowKit.intOf i).toNat)
  case atStart => exact ⟨0, Nat.zero_le _, rfl, OwnM.nil _ _, OwnM.nil _ _, .inl rfl, .inl rfl, Below.refl _ _⟩
  case round =>
    obtain ⟨k, hk, rfl, hr⟩ := hrel
    obtain ⟨ua, un, uc, rfl⟩ : ∃ a n c, u4 = .slice a n c := (by obtain ⟨a', c', e⟩ := hr.1.row.slice; exact ⟨a', _, c', e⟩)
    obtain ⟨va, vn, vc, rfl⟩ : ∃ a n c, u5 = .slice a n c := (by obtain ⟨a', c', e⟩ := hr.2.1.row.slice; exact ⟨a', _, c', e⟩)
    have HR := Lib.hid hr
    clear hr
    by_cases hlt : k < l.length
    · obtain ⟨b, off, rfl, hlc, hcap, hb, k0, k1, k2⟩ := (H.out.below HR.out.2.2.2.2).at hlt
      have hba := al wr (.cells #[.int .i64 l[k].c, .int .i64 l[k].s, .int .i64 l[k].o] 24)
      have hn := HP.out l[k] (List.getElem_mem hlt) (wr.alloc (.cells #[.int .i64 l[k].c, .int .i64 l[k].s, .int .i64 l[k].o] 24)) (below_trans HR.out.2.2.2.2 hba)
      have hx1 := Box.made wr (tcs l[k]) 24
      unfold tcs at hx1
      unfold wv at hn
      have HF1 := Lib.hid (filter_take (p := p) hlt)
      have HF2 := Lib.hid (filter_take (p := fun y => !p y) hlt)
      have HL1 := Lib.hid (filter_len p l k)
      have HL2 := Lib.hid (filter_len (fun y => !p y) l k)
      generalize l[k] = x at *
      obtain ⟨W1, hW1⟩ : ∃ W, wr.alloc (.cells #[.int .i64 x.c, .int .i64 x.s, .int .i64 x.o] 24) = W := ⟨_, rfl⟩
      have HB1 : Hid (Below wr.heap.size wr W1) := Lib.hid (hW1 ▸ hba)
      have HX1 : Hid (Box wr.heap.size [.int .i64 x.c, .int .i64 x.s, .int .i64 x.o] W1) := Lib.hid (hW1 ▸ hx1)
      rw [hW1] at hn
      obtain ⟨d0, d1, d2⟩ := HX1.out.c3
      have hs1 := HX1.out.1
      clear hba hx1
      obtain ⟨m, hm⟩ : ∃ m, p x = m := ⟨_, rfl⟩
      rw [hm] at hn HF1 HF2
      have HN := Lib.hid hn
      clear hn hm
      go_upto_region 4 with (fail)
      clear hW1
      go_wp2_with fail
      (with_reducible refine HN.out.mono ?_)
      rintro e w' ⟨rfl, hz⟩
      have HB2 := Lib.hid (below_trans HB1.out hz)
      obtain ⟨d0', d1', d2'⟩ := (HX1.out.below hz).c3
      have hs2 := (HX1.out.below hz).1
      clear hz d0 d1 d2 hs1
      cases m with
      | true =>
        have hone := row_M w' x
        have hba := al w' (.cells #[.int .i64 x.c, .int .i64 x.s, .int .i64 x.o] 24)
        have HB3 := Lib.hid (below_trans HR.out.2.2.2.2 (below_trans HB2.out hba))
        have HO1 := Lib.hid (HR.out.1.below (below_trans HB2.out hba))
        have HO2 := Lib.hid (HR.out.2.1.below (below_trans HB2.out hba))
        have HONE := Lib.hid hone
        have hsz := HB3.out.size
        clear hone hba
        go_wp2_with (at_builtin; refine wpList_append_M_beside rfl _ _ rfl w.heap.size _ ((l.take k).filter p) rfl HO1.out _ x rfl HONE.out (by have := HL1.out; have := HL.out; omega) hsz HO2.out HR.out.2.2.2.1 ?_)
        intro v' w3 hown hbel hu hap1 hap2
        obtain ⟨za, zn, zc, rfl⟩ : ∃ a n c, v' = .slice a n c := (by obtain ⟨a', c', e⟩ := hown.row.slice; exact ⟨a', _, c', e⟩)
        have HR3 : Hid (PartR p l (k + 1) (.slice za zn zc) (.slice va vn vc) w w3) := Lib.hid ⟨by rw [HF1.out]; exact hown, by rw [HF2.out]; simpa using hu, hap2, hap1, HB3.out.trans hbel⟩
        clear hown hbel hu hap1 hap2
        go_wp2_with fail
        go_roundw
        case rel => exact ⟨k + 1, by omega, by go_num, HR3.out⟩
        case measure => simp [intOf]; omega
      | false =>
        have hone := row_M w' x
        have hba := al w' (.cells #[.int .i64 x.c, .int .i64 x.s, .int .i64 x.o] 24)
        have HB3 := Lib.hid (below_trans HR.out.2.2.2.2 (below_trans HB2.out hba))
        have HO1 := Lib.hid (HR.out.1.below (below_trans HB2.out hba))
        have HO2 := Lib.hid (HR.out.2.1.below (below_trans HB2.out hba))
        have HONE := Lib.hid hone
        have hsz := HB3.out.size
        clear hone hba
        go_wp2_with (at_builtin; refine wpList_append_M_beside rfl _ _ rfl w.heap.size _ ((l.take k).filter (fun y => !p y)) rfl HO2.out _ x rfl HONE.out (by have := HL2.out; have := HL.out; omega) hsz HO1.out HR.out.2.2.1 ?_)
        intro v' w3 hown hbel hu hap1 hap2
        obtain ⟨za, zn, zc, rfl⟩ : ∃ a n c, v' = .slice a n c := (by obtain ⟨a', c', e⟩ := hown.row.slice; exact ⟨a', _, c', e⟩)
        have HR3 : Hid (PartR p l (k + 1) (.slice ua un uc) (.slice za zn zc) w w3) := Lib.hid ⟨by rw [HF1.out]; simpa using hu, by rw [HF2.out]; exact hown, hap1, hap2, HB3.out.trans hbel⟩
        clear hown hbel hu hap1 hap2
        go_wp2_with fail
        go_roundw
        case rel => exact ⟨k + 1, by omega, by go_num, HR3.out⟩
        case measure => simp [intOf]; omega
    · obtain rfl : k = l.length := by omega
      have HE1 : Hid ((l.take l.length).filter p = l.filter p) := Lib.hid (by rw [List.take_length])
      have HE2 : Hid ((l.take l.length).filter (fun y => !p y) = l.filter (fun y => !p y)) := Lib.hid (by rw [List.take_length])
      go_wp2_with fail
      go_ret2
      exact ⟨_, _, rfl, by rw [← HE1.out]; exact HR.out.1, by rw [← HE2.out]; exact HR.out.2.1, HR.out.2.2.2.2⟩
end Go.Proofs.Ytncaohdnbibkfaa.Timer
