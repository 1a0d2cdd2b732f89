/-
  Contract of the reference's Sorted: each put behind those that go ahead of it.
-/
import Derived.Test.YtdgenemgegpkdaaQRefHeap
import Derived.Test.YtdgenemgegpkdaaQIns
import Derived.Laws.AppendOwnNone
import Derived.Deep.Onto
namespace Go.Proofs.Ytdgenemgegpkdaa.Queue
open Go.ChangeShapes Go.WideShapes Go.ChangeAt Go.RowKit Go.Lib Go.Sort

/-- Waits are appended to a row of the call's own. -/
theorem wp_append_waits {w : World} {o : Oper} {a : Act} {K : Act → World → Prop} {Q : Exit → Act → World → Prop} (s y : Operand)
    (ho : o.op = .call { callee := .builtin .append, args := #[s, y], argTypes := #[22, 22] })
    (base : Nat) (v : Value) (l0 : List Wt) (hs : a.eval s = v) (hown : OwnQ base v l0 w) (ad : Addr) (cap : Nat) (l : List Wt) (n : Nat) (hn : n = l.length) (hy : a.eval y = .slice (some ad) n cap) (hrow : QRow w (.slice (some ad) l.length cap) l) (h0 : l0.length ≤ 1000) (hl : l.length ≤ 1000) (hbase : base ≤ w.heap.size)
    (h : ∀ v' w', OwnQ base v' (l0 ++ l) w' → Below base w w' → K (a.put o.dst v') w') : o.wp Try.prog a w K Q := by
  subst hn
  obtain ⟨i0, hi, hz0, hz1, hz2⟩ := info_parts infoQ
  refine wp_append_own w s y 22 ho base 24 i0 (.agg #[.int .i64 0, .int .i64 0, .int .i64 0]) 3 24 Try.underlying22 hi hz0 hz1 hz2 rfl (by decide) v l0.length (qcells l0) hs hown ad l.length cap (qcells l) hy (by rw [qcells_len]) hrow.news (qcells_one l) (by unfold maxLen; omega) (by omega) hbase ?_
  intro v' w1 hown' hgrow _
  refine h v' w1 ?_ ((show Below base w w from Below.refl _ _).grown hgrow hbase (fun j hj => (hown.lt j hj).1))
  unfold OwnQ
  rw [qcells_append, List.length_append]
  exact hown'
theorem wpList_append_waits {w : World} {ops : Array Oper} {rest : List Oper} {o : Oper} {a : Act} {Q : Exit → Act → World → Prop} (hgd : o.guard = none) (s y : Operand)
    (ho : o.op = .call { callee := .builtin .append, args := #[s, y], argTypes := #[22, 22] })
    (base : Nat) (v : Value) (l0 : List Wt) (hs : a.eval s = v) (hown : OwnQ base v l0 w) (ad : Addr) (cap : Nat) (l : List Wt) (n : Nat) (hn : n = l.length) (hy : a.eval y = .slice (some ad) n cap) (hrow : QRow w (.slice (some ad) l.length cap) l) (h0 : l0.length ≤ 1000) (hl : l.length ≤ 1000) (hbase : base ≤ w.heap.size)
    (h : ∀ v' w', OwnQ base v' (l0 ++ l) w' → Below base w w' → wpList Try.prog ops Q rest (a.put o.dst v') w') : wpList Try.prog ops Q (o :: rest) a w :=
  wpList_plain hgd fun _ hK => wp_append_waits s y ho base v l0 hs hown ad cap l n hn hy hrow h0 hl hbase fun v' w' h1 h2 => hK _ _ (h v' w' h1 h2)
/-- A row of none, just made. -/
theorem own_none (W : World) {B : Nat} (hB : W.heap.size = B) : OwnQ B (.slice (some ⟨B, 0, none⟩) 0 0) [] (W.alloc (.cells #[] 24)) := by
  subst hB
  exact World.ownsRow_made W #[] 0 (Nat.le_refl _) (Nat.zero_le _) rfl
/-- A row of one, just made. -/
theorem row_one (W : World) (x : Wt) : QRow (W.alloc (.cells #[.int .i64 x.c, .int .i64 x.s, .int .i64 x.o] 24)) (.slice (some ⟨W.heap.size, 0, none⟩) 1 1) [x] := by
  have hb := Box.made W [.int .i64 x.c, .int .i64 x.s, .int .i64 x.o] 24
  refine ⟨_, 1, rfl, Nat.le_refl 1, by omega, fun _ => ⟨_, 0, rfl, hb.1, fun j hj => ?_⟩⟩
  match j, hj with
  | 0, _ => exact ⟨(hb.2 0 _ rfl).1, (hb.2 1 _ rfl).1, (hb.2 2 _ rfl).1⟩
/-- The first of a row. -/
theorem QRow.fst {w : World} {a : Option Addr} {n cap : Nat} {b : Wt} {t : List Wt} (h : QRow w (.slice a n cap) (b :: t)) : ∃ bb off, a = some ⟨bb, off, none⟩ ∧ bb < w.heap.size ∧ w.cell? ⟨bb, off, none⟩ = some (.int .i64 b.c) ∧ w.cell? ⟨bb, off + 1, none⟩ = some (.int .i64 b.s) ∧ w.cell? ⟨bb, off + 2, none⟩ = some (.int .i64 b.o) := by
  obtain ⟨a', cap', e, h1, h2, h3⟩ := h
  injection e with e1 e2 e3
  obtain ⟨bb, off, ea, hb, hc⟩ := h3 (Nat.succ_pos _)
  have := hc 0 (Nat.succ_pos _)
  simp at this
  exact ⟨bb, off, e1.trans ea, hb, this⟩
/-- A row of none. -/
theorem row_zero (w : World) (ad : Option Addr) (cap : Nat) (l : List Wt) (h : l.length = 0) (hc : cap ≤ 9223372036854775807) : QRow w (.slice ad l.length cap) l :=
  ⟨ad, cap, rfl, by omega, hc, fun h0 => by omega⟩
/-- Behind some. -/
theorem QRow.drop {w : World} {b off cap : Nat} {l : List Wt} (h : QRow w (.slice (some ⟨b, off, none⟩) l.length cap) l) {n : Nat} (hn : n ≤ l.length) : QRow w (.slice (some ⟨b, off + n * 3, none⟩) (l.drop n).length (cap - n)) (l.drop n) := by
  obtain ⟨a', cap', e, h1, h2, h3⟩ := h
  cases e
  have e1 : (l.drop n).length = l.length - n := List.length_drop
  refine ⟨_, _, rfl, by omega, by omega, fun h0 => ?_⟩
  obtain ⟨b', off', ea, hbl, hc⟩ := h3 (by omega)
  cases ea
  exact ⟨b, off + n * 3, rfl, hbl, fun j hj => by
    rw [List.getElem_drop]
    have := hc (n + j) (by omega)
    rw [show off + (n + j) * 3 = off + n * 3 + j * 3 by omega] at this
    exact this⟩

/-- A new row that holds them. -/
def OutR (B : Nat) (v : Value) (l : List Wt) (w W : World) : Prop := (∃ g cap, v = .slice (some ⟨g, 0, none⟩) l.length cap) ∧ OwnQ B v l W ∧ Below B w W
theorem outR_end {w wz W : World} {v3 : Value} {x : Wt} {out : List Wt} {j : Nat} (hp : pos x out = j) (hb : Below w.heap.size w wz) (ho : OwnQ wz.heap.size v3 ((([] ++ out.take j) ++ [x]) ++ out.drop j) W) (hb3 : Below wz.heap.size wz W) : OutR w.heap.size v3 (insL x out) w W := by
  have e : (([] ++ out.take j) ++ [x]) ++ out.drop j = insL x out := by unfold insL; rw [hp]; simp
  rw [e] at ho
  have ho' : OwnQ w.heap.size v3 (insL x out) W := World.ownsRow.mono ho hb.size
  obtain ⟨g, cap, hv, _⟩ := ho'.at (i := 0) (by rw [insL_len]; omega)
  exact ⟨⟨g, cap, hv⟩, ho', hb.trans (hb3.mono hb.size)⟩
set_option maxRecDepth 100000 in
set_option maxHeartbeats 4000000 in
theorem refSorted_any {v : Value} {l : List Wt} {w : World} (h : QRow w v l) (hl : l.length ≤ 100) : Calls Try.prog 16 #[v] w (NewQ (sortL l) w) := by
  obtain ⟨a, cap, rfl⟩ := h.slice
  have H := Lib.hid h
  obtain ⟨n, hn⟩ : ∃ n, l.length = n := ⟨_, rfl⟩
  rw [hn] at H hl ⊢
  have HN := Lib.hid hn
  have HST : Hid (OutR w.heap.size (.slice (some ⟨w.heap.size, 0, none⟩) 0 0) [] w (w.alloc (.cells #[] 24))) := ⟨⟨_, _, rfl⟩, own_none w rfl, al w _⟩
  clear h hn
  go_enter Try.func16, Try.ntmps16
  go_wp2
  go_loopw [3, 11] (fun o i wr => ∃ k : Nat, k ≤ n ∧ i = .int .i64 k ∧ OutR w.heap.size o (sortL (l.take k)) w wr) (fun _ i _ => n - (Go.RowKit.intOf i).toNat)
  case atStart => exact ⟨0, Nat.zero_le _, rfl, by rw [List.take_zero]; exact HST.out⟩
  case round =>
    obtain ⟨k, hk, rfl, ⟨g, c0, hv⟩, ho, hbw⟩ := hrel
    by_cases hlt : k < n
    · have hkl : k < l.length := by rw [HN.out]; exact hlt
      have HSN := Lib.hid (sortL_snoc hkl)
      obtain ⟨out, hout⟩ : ∃ out, sortL (l.take k) = out := ⟨_, rfl⟩
      have hol : out.length = k := by rw [← hout, sortL_len, List.length_take]; omega
      rw [hout] at hv ho HSN
      have HOL := Lib.hid hol
      rw [hol] at hv
      subst hv
      have HO := Lib.hid ho
      have HBW := Lib.hid hbw
      have HRW := H.out.below hbw
      rw [← HN.out] at HRW
      obtain ⟨b, off, rfl, hlc, hcap, hb, x0, x1, x2⟩ := HRW.at hkl
      clear HRW ho hbw hol hout
      generalize l[k] = x at *
      generalize wr = w0 at *
      have HX1 := Lib.hid (Box.made w0 [.int .i64 x.c, .int .i64 x.s, .int .i64 x.o] 24)
      have HPL := Lib.hid (pos_le x out)
      have HPT := Lib.hid (pos_lt x out)
      have HPA := Lib.hid (pos_at x out)
      go_wp2
      go_loopw [6] (fun i W => ∃ j : Nat, j ≤ pos x out ∧ i = .int .i64 j ∧ Box w0.heap.size [.int .i64 x.c, .int .i64 x.s, .int .i64 x.o] W ∧ Below w0.heap.size w0 W) (fun i _ => k - (Go.RowKit.intOf i).toNat)
      case atStart => exact ⟨0, Nat.zero_le _, rfl, HX1.out, al w0 _⟩
      case round =>
        obtain ⟨j, hjp, rfl, hbx, hbz⟩ := hrel
        have HBX := Lib.hid hbx
        have HBZ := Lib.hid hbz
        clear hbx hbz x0 x1 x2
        by_cases hjk : j < k
        · have hjo : j < out.length := by rw [HOL.out]; exact hjk
          have hjr : HO.out.row = HO.out.row := rfl
          have HRW := HO.out.row.below HBZ.out
          rw [← HOL.out] at HRW
          obtain ⟨_, _, e, _, _, hgl, y0, y1, y2⟩ := HRW.at hjo
          cases e
          rw [Nat.zero_add] at y0 y1 y2
          have hls := fun W => refLess_any x out[j] W
          unfold wv at hls
          have HPJ : Hid (ltB x out[j] = true → pos x out = j) := Lib.hid (fun hc => by
            rcases Nat.lt_or_ge j (pos x out) with h1 | h1
            · rw [HPT.out j hjo h1] at hc; cases hc
            · omega)
          have HPN : Hid (ltB x out[j] = false → j + 1 ≤ pos x out) := Lib.hid (fun hc => by
            rcases Nat.lt_or_ge j (pos x out) with h1 | h1
            · omega
            · have e : pos x out = j := by omega
              have := HPA.out (by rw [e]; exact hjo)
              simp only [e] at this
              rw [hc] at this
              cases this)
          have hd : decide ((j : Int) < (k : Int)) = true := decide_eq_true (by omega)
          have ij0 : (0 : Int) ≤ (j : Int) := by omega
          have ij1 : (j : Int) < (k : Int) := by omega
          clear HRW hjr
          generalize out[j] = y at *
          cases hm : ltB x y with
          | true =>
            have hjp2 := HPJ.out hm
            rw [hm] at hls
            clear hm HPJ HPN
            have HSF : Hid (∀ w', Below wr.heap.size wr w' → w'.cell? ⟨w0.heap.size, 0, none⟩ = some (.int .i64 x.c) ∧ w'.cell? ⟨w0.heap.size, 1, none⟩ = some (.int .i64 x.s) ∧ w'.cell? ⟨w0.heap.size, 2, none⟩ = some (.int .i64 x.o) ∧ w'.cell? ⟨g, j * 3, none⟩ = some (.int .i64 y.c) ∧ w'.cell? ⟨g, j * 3 + 1, none⟩ = some (.int .i64 y.s) ∧ w'.cell? ⟨g, j * 3 + 2, none⟩ = some (.int .i64 y.o)) := Lib.hid (fun w' h => ⟨((HBX.out.below h).c3).1, ((HBX.out.below h).c3).2.1, ((HBX.out.below h).c3).2.2, (h.cell (p := ⟨g, _, none⟩) hgl).trans y0, (h.cell (p := ⟨g, _, none⟩) hgl).trans y1, (h.cell (p := ⟨g, _, none⟩) hgl).trans y2⟩)
            have HLS := Lib.hid hls
            clear hls
            go_upto_region 6 with fail
            go_region_held3 (fun w' => w'.cell? ⟨w0.heap.size, 0, none⟩ = some (.int .i64 x.c) ∧ w'.cell? ⟨w0.heap.size, 1, none⟩ = some (.int .i64 x.s) ∧ w'.cell? ⟨w0.heap.size, 2, none⟩ = some (.int .i64 x.o) ∧ w'.cell? ⟨g, j * 3, none⟩ = some (.int .i64 y.c) ∧ w'.cell? ⟨g, j * 3 + 1, none⟩ = some (.int .i64 y.s) ∧ w'.cell? ⟨g, j * 3 + 2, none⟩ = some (.int .i64 y.o)) (first | with_reducible exact HSF.out _ (dr wr) | with_reducible exact HSF.out _ HZ.out | fail)
              (first
                | (go_at_call 11; (with_reducible refine (HLS.out _).mono ?_); rintro e w5 ⟨rfl, hz⟩; have HZ := Lib.hid (below_trans (dr wr) hz); clear hz)
                | fail)
            have HBV := Lib.hid (HBX.out.below HZ.out)
            have HBY := Lib.hid (HBZ.out.trans (HZ.out.mono HBZ.out.size))
            clear HBX HBZ HZ HSF HLS y0 y1 y2 hgl
            generalize w5 = wz at *
            have hjk2 : j ≤ k := by have := HPL.out; rw [HOL.out] at this; omega
            have HTL : Hid ((out.take j).length = j) := Lib.hid (by rw [List.length_take, HOL.out]; omega)
            have HDL : Hid ((out.drop j).length = k - j) := Lib.hid (by rw [List.length_drop, HOL.out])
            have HL1 : Hid (([] ++ out.take j).length = j) := Lib.hid (by rw [List.nil_append]; exact HTL.out)
            have HL2 : Hid ((([] ++ out.take j) ++ [x]).length = j + 1) := Lib.hid (by rw [List.length_append, HL1.out]; rfl)
            have HBWZ := Lib.hid (HBW.out.trans (HBY.out.mono HBW.out.size))
            have HRO : QRow wz (.slice (some ⟨g, 0, none⟩) k c0) out := HO.out.row.below HBY.out
            have HN0 := Lib.hid (own_none wz rfl)
            have HQ1 : Hid (QRow (wz.alloc (.cells #[] 24)) (.slice (some ⟨g, 0, none⟩) (out.take j).length c0) (out.take j)) := Lib.hid (by
              have hro := HRO.below (al wz (.cells #[] 24))
              rw [← HOL.out] at hro
              rw [HTL.out]
              exact hro.take (by rw [HOL.out]; omega))
            have HQD : Hid (∀ W, Below wz.heap.size wz W → QRow W (.slice (some ⟨g, j * 3, none⟩) (out.drop j).length (c0 - j)) (out.drop j)) := Lib.hid (fun W hb => by
              have hro := HRO.below hb
              rw [← HOL.out] at hro
              have := hro.drop (n := j) (by rw [HOL.out]; omega)
              rwa [Nat.zero_add] at this)
            have hkc : k ≤ c0 := by obtain ⟨_, _, e, h1, _⟩ := HRO; cases e; rw [HOL.out] at h1; exact h1
            have hc0 : c0 ≤ 9223372036854775807 := by obtain ⟨_, _, e, _, h1, _⟩ := HRO; cases e; exact h1
            have hxl := HBV.out.1
            clear HRO HO HBW HX1 HPT HPA HPL
            by_cases hcj : c0 = j
            · omega
            have hcj2 : (c0 = j) = False := eq_false hcj
            go_wp2_with (first
              | (at_builtin; refine wpList_append_waits rfl _ _ rfl wz.heap.size _ [] rfl HN0.out ⟨g, 0, none⟩ c0 (out.take j) j HTL.out.symm rfl HQ1.out (by simp) (by rw [HTL.out]; omega) (by simp) ?_; intro v1 W2 ho1 hb1; have HB1 := Lib.hid ((al wz (.cells #[] 24)).trans hb1); have HBV2 := Lib.hid (HBV.out.keep hxl HB1.out); obtain ⟨p0, p1, p2⟩ := HBV2.out.c3; have HO1 := Lib.hid (ho1.below (al W2 (.cells #[.int .i64 x.c, .int .i64 x.s, .int .i64 x.o] 24))); obtain ⟨a1, c1, e1⟩ := ho1.row.slice; rw [HL1.out] at e1; subst e1; have hbs : wz.heap.size ≤ (W2.alloc (.cells #[.int .i64 x.c, .int .i64 x.s, .int .i64 x.o] 24)).heap.size := (by have := HB1.out.size; simp; omega); clear ho1 hb1 HN0 HQ1)
              | (at_builtin; refine wpList_append_waits rfl _ _ rfl wz.heap.size _ ([] ++ out.take j) rfl HO1.out ⟨W2.heap.size, 0, none⟩ 1 [x] 1 rfl rfl (row_one W2 x) (by rw [HL1.out]; omega) (by simp) hbs ?_; intro v2 W3 ho2 hb2; have HB2 := Lib.hid ((HB1.out.trans ((al W2 (.cells #[.int .i64 x.c, .int .i64 x.s, .int .i64 x.o] 24)).mono HB1.out.size)).trans hb2); have HO2 := Lib.hid ho2; obtain ⟨a2, c2, e2⟩ := ho2.row.slice; rw [HL2.out] at e2; subst e2; have hbs2 := HB2.out.size; clear ho2 hb2 HO1 p0 p1 p2)
              | (at_builtin; refine wpList_append_waits rfl _ _ rfl wz.heap.size _ (([] ++ out.take j) ++ [x]) rfl HO2.out ⟨g, j * 3, none⟩ (c0 - j) (out.drop j) (k - j) HDL.out.symm rfl (HQD.out _ HB2.out) (by rw [HL2.out]; omega) (by rw [HDL.out]; omega) hbs2 ?_; intro v3 W4 ho3 hb3; have HFIN := Lib.hid (outR_end hjp2 HBWZ.out ho3 (HB2.out.trans hb3)); obtain ⟨⟨g5, c5, e5⟩, _, _⟩ := HFIN.out; rw [insL_len, HOL.out] at e5; subst e5; clear ho3 hb3))
            go_roundw
            case rel => exact ⟨k + 1, by omega, by go_num, by rw [HSN.out]; exact HFIN.out⟩
            case measure => simp [Go.RowKit.intOf]; omega
          | false =>
            have hjp2 := HPN.out hm
            rw [hm] at hls
            clear hm HPJ HPN
            have HSF : Hid (∀ w', Below wr.heap.size wr w' → w'.cell? ⟨w0.heap.size, 0, none⟩ = some (.int .i64 x.c) ∧ w'.cell? ⟨w0.heap.size, 1, none⟩ = some (.int .i64 x.s) ∧ w'.cell? ⟨w0.heap.size, 2, none⟩ = some (.int .i64 x.o) ∧ w'.cell? ⟨g, j * 3, none⟩ = some (.int .i64 y.c) ∧ w'.cell? ⟨g, j * 3 + 1, none⟩ = some (.int .i64 y.s) ∧ w'.cell? ⟨g, j * 3 + 2, none⟩ = some (.int .i64 y.o)) := Lib.hid (fun w' h => ⟨((HBX.out.below h).c3).1, ((HBX.out.below h).c3).2.1, ((HBX.out.below h).c3).2.2, (h.cell (p := ⟨g, _, none⟩) hgl).trans y0, (h.cell (p := ⟨g, _, none⟩) hgl).trans y1, (h.cell (p := ⟨g, _, none⟩) hgl).trans y2⟩)
            have HLS := Lib.hid hls
            clear hls
            go_upto_region 6 with fail
            go_region_held3 (fun w' => w'.cell? ⟨w0.heap.size, 0, none⟩ = some (.int .i64 x.c) ∧ w'.cell? ⟨w0.heap.size, 1, none⟩ = some (.int .i64 x.s) ∧ w'.cell? ⟨w0.heap.size, 2, none⟩ = some (.int .i64 x.o) ∧ w'.cell? ⟨g, j * 3, none⟩ = some (.int .i64 y.c) ∧ w'.cell? ⟨g, j * 3 + 1, none⟩ = some (.int .i64 y.s) ∧ w'.cell? ⟨g, j * 3 + 2, none⟩ = some (.int .i64 y.o)) (first | with_reducible exact HSF.out _ (dr wr) | with_reducible exact HSF.out _ HZ.out | fail)
              (first
                | (go_at_call 11; (with_reducible refine (HLS.out _).mono ?_); rintro e w5 ⟨rfl, hz⟩; have HZ := Lib.hid (below_trans (dr wr) hz); clear hz)
                | fail)
            go_wp2_with fail
            go_roundw
            case rel => exact ⟨j + 1, hjp2, by go_num, HBX.out.below HZ.out, HBZ.out.trans (HZ.out.mono HBZ.out.size)⟩
            case measure => simp [Go.RowKit.intOf]; omega
        · have hjp2 : pos x out = j := by have := HPL.out; rw [HOL.out] at this; omega
          have hd : decide ((j : Int) < (k : Int)) = false := decide_eq_false (by omega)
          go_upto_region 6 with fail
          go_region
          have HBV := Lib.hid (HBX.out.below (dr wr))
          have HBY := Lib.hid (HBZ.out.trans ((dr wr).mono HBZ.out.size))
          clear HBX HBZ
          generalize wr.drew = wz at *
          have hjk2 : j ≤ k := by have := HPL.out; rw [HOL.out] at this; omega
          have HTL : Hid ((out.take j).length = j) := Lib.hid (by rw [List.length_take, HOL.out]; omega)
          have HDL : Hid ((out.drop j).length = k - j) := Lib.hid (by rw [List.length_drop, HOL.out])
          have HL1 : Hid (([] ++ out.take j).length = j) := Lib.hid (by rw [List.nil_append]; exact HTL.out)
          have HL2 : Hid ((([] ++ out.take j) ++ [x]).length = j + 1) := Lib.hid (by rw [List.length_append, HL1.out]; rfl)
          have HBWZ := Lib.hid (HBW.out.trans (HBY.out.mono HBW.out.size))
          have HRO : QRow wz (.slice (some ⟨g, 0, none⟩) k c0) out := HO.out.row.below HBY.out
          have HN0 := Lib.hid (own_none wz rfl)
          have HQ1 : Hid (QRow (wz.alloc (.cells #[] 24)) (.slice (some ⟨g, 0, none⟩) (out.take j).length c0) (out.take j)) := Lib.hid (by
            have hro := HRO.below (al wz (.cells #[] 24))
            rw [← HOL.out] at hro
            rw [HTL.out]
            exact hro.take (by rw [HOL.out]; omega))
          have HQD : Hid (∀ W, Below wz.heap.size wz W → QRow W (.slice (some ⟨g, j * 3, none⟩) (out.drop j).length (c0 - j)) (out.drop j)) := Lib.hid (fun W hb => by
            have hro := HRO.below hb
            rw [← HOL.out] at hro
            have := hro.drop (n := j) (by rw [HOL.out]; omega)
            rwa [Nat.zero_add] at this)
          have hkc : k ≤ c0 := by obtain ⟨_, _, e, h1, _⟩ := HRO; cases e; rw [HOL.out] at h1; exact h1
          have hc0 : c0 ≤ 9223372036854775807 := by obtain ⟨_, _, e, _, h1, _⟩ := HRO; cases e; exact h1
          have hxl := HBV.out.1
          clear HRO HO HBW HX1 HPT HPA HPL
          by_cases hcj : c0 = j
          · subst hcj
            have hkj : k = c0 := by omega
            subst hkj
            have HD0 : Hid ((out.drop k).length = 0) := Lib.hid (by rw [HDL.out]; omega)
            clear hkc HQD HDL
            go_wp2_with (first
              | (at_builtin; refine wpList_append_waits rfl _ _ rfl wz.heap.size _ [] rfl HN0.out ⟨g, 0, none⟩ k (out.take k) k HTL.out.symm rfl HQ1.out (by simp) (by rw [HTL.out]; omega) (by simp) ?_; intro v1 W2 ho1 hb1; have HB1 := Lib.hid ((al wz (.cells #[] 24)).trans hb1); have HBV2 := Lib.hid (HBV.out.keep hxl HB1.out); obtain ⟨p0, p1, p2⟩ := HBV2.out.c3; have HO1 := Lib.hid (ho1.below (al W2 (.cells #[.int .i64 x.c, .int .i64 x.s, .int .i64 x.o] 24))); obtain ⟨a1, c1, e1⟩ := ho1.row.slice; rw [HL1.out] at e1; subst e1; have hbs : wz.heap.size ≤ (W2.alloc (.cells #[.int .i64 x.c, .int .i64 x.s, .int .i64 x.o] 24)).heap.size := (by have := HB1.out.size; simp; omega); clear ho1 hb1 HN0 HQ1)
              | (at_builtin; refine wpList_append_waits rfl _ _ rfl wz.heap.size _ ([] ++ out.take k) rfl HO1.out ⟨W2.heap.size, 0, none⟩ 1 [x] 1 rfl rfl (row_one W2 x) (by rw [HL1.out]; omega) (by simp) hbs ?_; intro v2 W3 ho2 hb2; have HB2 := Lib.hid ((HB1.out.trans ((al W2 (.cells #[.int .i64 x.c, .int .i64 x.s, .int .i64 x.o] 24)).mono HB1.out.size)).trans hb2); have HO2 := Lib.hid ho2; obtain ⟨a2, c2, e2⟩ := ho2.row.slice; rw [HL2.out] at e2; subst e2; have hbs2 := HB2.out.size; clear ho2 hb2 HO1 p0 p1 p2)
              | (at_builtin; refine wpList_append_waits rfl _ _ rfl wz.heap.size _ (([] ++ out.take k) ++ [x]) rfl HO2.out ⟨g, 0, none⟩ 0 (out.drop k) 0 HD0.out.symm rfl (row_zero _ _ _ _ HD0.out (by omega)) (by rw [HL2.out]; omega) (by rw [HD0.out]; omega) hbs2 ?_; intro v3 W4 ho3 hb3; have HFIN := Lib.hid (outR_end hjp2 HBWZ.out ho3 (HB2.out.trans hb3)); obtain ⟨⟨g5, c5, e5⟩, _, _⟩ := HFIN.out; rw [insL_len, HOL.out] at e5; subst e5; clear ho3 hb3))
            go_roundw
            case rel => exact ⟨k + 1, by omega, by go_num, by rw [HSN.out]; exact HFIN.out⟩
            case measure => simp [Go.RowKit.intOf]; omega
          have hcj2 : (c0 = j) = False := eq_false hcj
          go_wp2_with (first
            | (at_builtin; refine wpList_append_waits rfl _ _ rfl wz.heap.size _ [] rfl HN0.out ⟨g, 0, none⟩ c0 (out.take j) j HTL.out.symm rfl HQ1.out (by simp) (by rw [HTL.out]; omega) (by simp) ?_; intro v1 W2 ho1 hb1; have HB1 := Lib.hid ((al wz (.cells #[] 24)).trans hb1); have HBV2 := Lib.hid (HBV.out.keep hxl HB1.out); obtain ⟨p0, p1, p2⟩ := HBV2.out.c3; have HO1 := Lib.hid (ho1.below (al W2 (.cells #[.int .i64 x.c, .int .i64 x.s, .int .i64 x.o] 24))); obtain ⟨a1, c1, e1⟩ := ho1.row.slice; rw [HL1.out] at e1; subst e1; have hbs : wz.heap.size ≤ (W2.alloc (.cells #[.int .i64 x.c, .int .i64 x.s, .int .i64 x.o] 24)).heap.size := (by have := HB1.out.size; simp; omega); clear ho1 hb1 HN0 HQ1)
            | (at_builtin; refine wpList_append_waits rfl _ _ rfl wz.heap.size _ ([] ++ out.take j) rfl HO1.out ⟨W2.heap.size, 0, none⟩ 1 [x] 1 rfl rfl (row_one W2 x) (by rw [HL1.out]; omega) (by simp) hbs ?_; intro v2 W3 ho2 hb2; have HB2 := Lib.hid ((HB1.out.trans ((al W2 (.cells #[.int .i64 x.c, .int .i64 x.s, .int .i64 x.o] 24)).mono HB1.out.size)).trans hb2); have HO2 := Lib.hid ho2; obtain ⟨a2, c2, e2⟩ := ho2.row.slice; rw [HL2.out] at e2; subst e2; have hbs2 := HB2.out.size; clear ho2 hb2 HO1 p0 p1 p2)
            | (at_builtin; refine wpList_append_waits rfl _ _ rfl wz.heap.size _ (([] ++ out.take j) ++ [x]) rfl HO2.out ⟨g, j * 3, none⟩ (c0 - j) (out.drop j) (k - j) HDL.out.symm rfl (HQD.out _ HB2.out) (by rw [HL2.out]; omega) (by rw [HDL.out]; omega) hbs2 ?_; intro v3 W4 ho3 hb3; have HFIN := Lib.hid (outR_end hjp2 HBWZ.out ho3 (HB2.out.trans hb3)); obtain ⟨⟨g5, c5, e5⟩, _, _⟩ := HFIN.out; rw [insL_len, HOL.out] at e5; subst e5; clear ho3 hb3))
          go_roundw
          case rel => exact ⟨k + 1, by omega, by go_num, by rw [HSN.out]; exact HFIN.out⟩
          case measure => simp [Go.RowKit.intOf]; omega
    · obtain rfl : k = n := by omega
      have HE : Hid (l.take k = l) := Lib.hid (by rw [← HN.out, List.take_length])
      rw [HE.out] at ho
      have HO := Lib.hid ho
      have HBW := Lib.hid hbw
      have hsl : (sortL l).length = k := by rw [sortL_len]; exact HN.out
      rw [HE.out, hsl] at hv
      subst hv
      clear ho hbw
      go_wp2
      go_ret
      exact ⟨_, rfl, HO.out, HBW.out⟩
end Go.Proofs.Ytdgenemgegpkdaa.Queue
