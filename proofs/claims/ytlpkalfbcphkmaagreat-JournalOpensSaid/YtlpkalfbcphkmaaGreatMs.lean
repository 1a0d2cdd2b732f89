/-
  Joined: JArg, JCrashAll, JLaw, BRow.
-/
import Derived.Test.YtlpkalfbcphkmaaGreatMc
import Derived.Test.YtlpkalfbcphkmaaGreatMr
import Derived.Test.YtlpkalfbcphkmaaGreatMq
import Derived.Test.YtlpkalfbcphkmaaGreatMm
import Derived.Laws.IdiomStrings

/-
  A journal among a law's arguments, opened: its slices, whatever they hold, and its numbers.
-/
namespace Go.Proofs.YtlpkalfbcphkmaaGreat.Disk.Jn
open Go.ChangeShapes Go.WideShapes Go.ChangeAt Go.RowKit Go.Lib

section
variable {H : Type} {enc : TypeId × Value → H} {W : World} {base : Nat} {spare : Nat → Bool} {held : Bool}

theorem disk_of {fuel : Nat} {v0 v1 : Value} {x : DataW H × List MemPlace} (h : DataW.trod enc Tryz.prog W base spare held fuel 25 [v0, v1] = some x) : ArgS W v0 ∧ ArgW W v1 := by
  obtain ⟨y0, y1, n, _, _, g0, g1⟩ := trod_struct2 Tryz.underlying25 h
  have k0 : Tryz.prog.cellsOf 22 = 1 := by kernel_rfl
  have k1 : Tryz.prog.cellsOf 23 = 1 := by kernel_rfl
  rw [k0] at g0
  rw [k1] at g1
  exact ⟨argS_of g0, argW_of g1⟩

set_option maxRecDepth 100000 in
theorem open_journal {v : Value} {fuel : Nat} {x : DataW H × List MemPlace} {r : Reach} {b0 : Nat} (hv : Value.okWide Tryz.prog W r b0 27 v) (h : DataW.trod enc Tryz.prog W base spare held fuel 27 v.cells.toList = some x) :
    ∃ vS vW s hh u vG vR, v = jv vS vW s hh u vG vR ∧ ArgS W vS ∧ ArgW W vW ∧ ArgS W vG ∧ ArgS W vR ∧ (-9223372036854775808 ≤ s ∧ s ≤ 9223372036854775807) ∧ (-9223372036854775808 ≤ hh ∧ hh ≤ 9223372036854775807) ∧ (-9223372036854775808 ≤ u ∧ u ≤ 9223372036854775807) := by
  obtain ⟨cs, rfl, hcs⟩ := okWide_struct Tryz.underlying27 hv
  have h7 : Tryz.prog.cellsOf 27 = 7 := by kernel_rfl
  rw [h7] at hcs
  obtain ⟨xs, n, _, _, _, hx, hf⟩ := DataW.trod_struct Tryz.underlying27 h
  have k0 : Tryz.prog.cellsOf 25 = 2 := by kernel_rfl
  have k1 : Tryz.prog.cellsOf 3 = 1 := by kernel_rfl
  have k2 : Tryz.prog.cellsOf 22 = 1 := by kernel_rfl
  clear h hv
  match cs, hcs with
  | ⟨[c0, c1, c2, c3, c4, c5, c6]⟩, _ =>
    match xs, hx with
    | [x0, x1, x2, x3, x4, x5], _ =>
      have g0 : DataW.trod enc Tryz.prog W base spare held n 25 (([c0, c1, c2, c3, c4, c5, c6].drop 0).take (Tryz.prog.cellsOf 25)) = some x0 := hf 0 _ rfl
      have g1 : DataW.trod enc Tryz.prog W base spare held n 3 (([c0, c1, c2, c3, c4, c5, c6].drop 2).take (Tryz.prog.cellsOf 3)) = some x1 := hf 1 _ rfl
      have g2 : DataW.trod enc Tryz.prog W base spare held n 3 (([c0, c1, c2, c3, c4, c5, c6].drop 3).take (Tryz.prog.cellsOf 3)) = some x2 := hf 2 _ rfl
      have g3 : DataW.trod enc Tryz.prog W base spare held n 3 (([c0, c1, c2, c3, c4, c5, c6].drop 4).take (Tryz.prog.cellsOf 3)) = some x3 := hf 3 _ rfl
      have g4 : DataW.trod enc Tryz.prog W base spare held n 22 (([c0, c1, c2, c3, c4, c5, c6].drop 5).take (Tryz.prog.cellsOf 22)) = some x4 := hf 4 _ rfl
      have g5 : DataW.trod enc Tryz.prog W base spare held n 22 (([c0, c1, c2, c3, c4, c5, c6].drop 6).take (Tryz.prog.cellsOf 22)) = some x5 := hf 5 _ rfl
      rw [k0] at g0
      rw [k1] at g1 g2 g3
      rw [k2] at g4 g5
      have a0 := disk_of g0
      obtain ⟨s, e2, _, w2⟩ := DataW.trod_int Tryz.underlying3 g1
      obtain ⟨hh, e3, _, w3⟩ := DataW.trod_int Tryz.underlying3 g2
      obtain ⟨u, e4, _, w4⟩ := DataW.trod_int Tryz.underlying3 g3
      have e2' : c2 = .int .i64 s := by simpa using e2
      have e3' : c3 = .int .i64 hh := by simpa using e3
      have e4' : c4 = .int .i64 u := by simpa using e4
      subst e2' e3' e4'
      refine ⟨c0, c1, s, hh, u, c5, c6, rfl, a0.1, a0.2, argS_of g4, argS_of g5, ?_, ?_, ?_⟩
      · simp [Lit.wf] at w2; have e1 : IntKind.i64.min = -9223372036854775808 := (by decide +kernel); have e2 : IntKind.i64.max = 9223372036854775807 := (by decide +kernel); omega
      · simp [Lit.wf] at w3; have e1 : IntKind.i64.min = -9223372036854775808 := (by decide +kernel); have e2 : IntKind.i64.max = 9223372036854775807 := (by decide +kernel); omega
      · simp [Lit.wf] at w4; have e1 : IntKind.i64.min = -9223372036854775808 := (by decide +kernel); have e2 : IntKind.i64.max = 9223372036854775807 := (by decide +kernel); omega
end
end Go.Proofs.YtlpkalfbcphkmaaGreat.Disk.Jn

/-
  Contract of Crash (package journal), for any journal: refused, or a disk is left that opens, as it was or as it would be.
-/
namespace Go.Proofs.YtlpkalfbcphkmaaGreat.Disk.Jn
open Go.ChangeShapes Go.WideShapes Go.ChangeAt Go.RowKit Go.Lib
open Go.Proofs.YtlpkalfbcphkmaaGreat.Frame (frm frms mk_list mk_size size_list)

/-- What a journal's records would be. -/
def thenL (J : JN) (d : ByteArray) : List ByteArray := if d.size = 0 then J.l ++ J.g else [d]
/-- What comes of a crash. -/
def CrashO (J : JN) (d : ByteArray) (late : Bool) (w : World) (e : Ending) (w' : World) : Prop :=
  (∃ k, ((k = 1 ∧ ∀ t, ¬ May J t) ∨ (k = 3 ∧ 3000 < d.size) ∨ k = 7) ∧ DiskE [] [] k w e w') ∨
  (∃ t D t' l', May J t ∧ Opens D t' l' ∧ (l' = J.l ∨ (late = true ∧ l' = thenL J d)) ∧ DiskE D [] 0 w e w')

theorem crash_go {vS vW vG vR : Value} {J : JN} {w : World} (hJ : JRow w vS vW vG vR J) (d : ByteArray) {t : Told} (hm : May J t) {half fr : Nat} {bs : ByteArray} (hq : Seals J.ls t half fr bs.data.toList (thenL J d))
    (hp : ∀ W, Below w.heap.size w W → Calls Tryz.prog 54 #[jv vS vW J.s J.h J.u vG vR, .string d] W (PartE half fr bs 0 W)) (late : Bool) (kp : Nat) (hkp : kp < 18446744073709551616) (tn : Int) :
    Calls Tryz.prog 24 #[jv vS vW J.s J.h J.u vG vR, .string d, .bool late, .int .u64 kp, .int .i64 tn] w (CrashO J d late w) := by
  cases late with
  | false => exact (Crash_early hJ d hm hq hp kp hkp tn).mono fun _ _ h => .inr ⟨t, _, _, _, hm, early hm.op hq kp tn, .inl rfl, h⟩
  | true =>
    refine (Crash_late hJ d hm hq hp kp hkp tn).mono fun _ _ h => ?_
    have hb : bs.data.toList.length = bs.size := size_list bs
    have hl := Jn.late hm.op hq kp tn
    rw [hb] at hl
    rcases hl with h1 | h1
    · exact .inr ⟨t, _, _, _, hm, h1, .inl rfl, h⟩
    · exact .inr ⟨t, _, _, _, hm, h1, .inr ⟨rfl, rfl⟩, h⟩

theorem Crash_all {vS vW vG vR : Value} {J : JN} {w : World} (hJ : JRow w vS vW vG vR J) (hz : JSmall J) (d : ByteArray) (hd : d.size ≤ 1000000) (late : Bool) (kp : Nat) (hkp : kp < 18446744073709551616) (tn : Int) :
    Calls Tryz.prog 24 #[jv vS vW J.s J.h J.u vG vR, .string d, .bool late, .int .u64 kp, .int .i64 tn] w (CrashO J d late w) := by
  by_cases h0 : d.size = 0
  · have hde : d = ⟨#[]⟩ := ByteArray.ext (Array.eq_empty_of_size_eq_zero h0)
    have hth : thenL J d = J.l ++ J.g := by unfold thenL; rw [if_pos h0]
    by_cases hm : ∃ t, May J t
    · obtain ⟨t, hm⟩ := hm
      by_cases ht : t.seals < 1099511627776
      · have hq := may_commit hm ht
        refine crash_go (bs := ⟨(frms J.g).toArray⟩) hJ d hm (by rw [mk_list, hth]; exact hq) (fun W hb => ?_) late kp hkp tn
        rw [hde]
        exact sealing_none (hJ.below hb) fun W' hb' => waiting_yes ((hJ.below hb).below hb') hm ht
      · have hs : t.seals = 1099511627776 := by have := (opens_may hm.op).2.2.1; omega
        refine (Crash_no hJ d (k := 7) (by decide) (fun W hb => ?_) late kp tn).mono fun _ _ h => .inl ⟨7, .inr (.inr rfl), h⟩
        rw [hde]
        exact sealing_none (hJ.below hb) fun W' hb' => waiting_no ((hJ.below hb).below hb') hz (.inr ⟨rfl, t, hm, hs⟩)
    · have hno : ∀ t, ¬ May J t := fun t h => hm ⟨t, h⟩
      refine (Crash_no hJ d (k := 1) (by decide) (fun W hb => ?_) late kp tn).mono fun _ _ h => .inl ⟨1, .inl ⟨rfl, hno⟩, h⟩
      rw [hde]
      exact sealing_none (hJ.below hb) fun W' hb' => waiting_no ((hJ.below hb).below hb') hz (.inl ⟨rfl, hno⟩)
  · have hth : thenL J d = [d] := by unfold thenL; rw [if_neg h0]
    by_cases hm : ∃ t, May J t
    · obtain ⟨t, hm⟩ := hm
      by_cases hk : insteadE J.ls.length t.seals d = 0
      · have hq := may_compact hm hk
        refine crash_go (bs := ⟨(frm d).toArray⟩) (half := 1 - t.half) (fr := 0) hJ d hm (by rw [mk_list, hth]; exact hq) (fun W hb => ?_) late kp hkp tn
        refine sealing_some (hJ.below hb) d h0 fun W' hb' => (instead_any ((hJ.below hb).below hb') hm d hd).mono fun _ _ h => ?_
        rw [half_cast (opens_may hm.op).1]
        exact h.1 hk
      · refine (Crash_no hJ d hk (fun W hb => ?_) late kp tn).mono fun _ _ h => .inl ⟨_, ?_, h⟩
        · exact sealing_some (hJ.below hb) d h0 fun W' hb' => (instead_any ((hJ.below hb).below hb') hm d hd).mono fun _ _ h => h.2 hk
        · unfold insteadE at hk ⊢
          by_cases c : 3000 < d.size
          · rw [if_pos c]; exact .inr (.inl ⟨rfl, c⟩)
          · rw [if_neg c] at hk ⊢
            by_cases c2 : roomN J.ls.length < (frm d).length
            · rw [if_pos c2]; exact .inr (.inr rfl)
            · rw [if_neg c2] at hk ⊢
              by_cases c3 : t.seals = 1099511627776
              · rw [if_pos c3]; exact .inr (.inr rfl)
              · rw [if_neg c3] at hk; exact absurd rfl hk
    · have hno : ∀ t, ¬ May J t := fun t h => hm ⟨t, h⟩
      refine (Crash_no hJ d (k := 1) (by decide) (fun W hb => ?_) late kp tn).mono fun _ _ h => .inl ⟨1, .inl ⟨rfl, hno⟩, h⟩
      exact sealing_some (hJ.below hb) d h0 fun W' hb' => instead_bad ((hJ.below hb).below hb') hz hno d
end Go.Proofs.YtlpkalfbcphkmaaGreat.Disk.Jn

/-
  What the laws of journals share: a journal in its block, texts appended to a row of the call's own, steps of a drawn region.
-/
namespace Go.Proofs.YtlpkalfbcphkmaaGreat.Disk.Jn
open Go.ChangeShapes Go.WideShapes Go.ChangeAt Go.RowKit Go.Lib
open Go.Proofs.YtlpkalfbcphkmaaGreat.Frame (frm frms)

theorem small_few {ls g l : List ByteArray} {ws : List (Int × ByteArray)} {s h u : Int} (h1 : ls.length ≤ 30 ∧ ws.length ≤ 4 ∧ (∀ t ∈ ls, t.size ≤ 66) ∧ (∀ y ∈ ws, y.2.size ≤ 66)) (h2 : g.length ≤ 18 ∧ (∀ t ∈ g, t.size ≤ 1002)) (h3 : l.length ≤ 60 ∧ (∀ t ∈ l, t.size ≤ 1002)) : JSmall ⟨ls, ws, s, h, u, g, l⟩ :=
  ⟨⟨by show ls.length ≤ 1000; omega, by show ws.length ≤ 1000; omega, fun j h => by have := h1.2.2.1 _ (List.getElem_mem h); omega, fun j h => by have := h1.2.2.2 _ (List.getElem_mem h); omega⟩, by show g.length ≤ 1000; omega, fun d hd => by have := h2.2 d hd; omega, by show l.length ≤ 100000; omega⟩

/-- A journal in its block. -/
def JB (b : Nat) (vS vW vG vR : Value) (J : JN) (W : World) : Prop := Box b [vS, vW, .int .i64 J.s, .int .i64 J.h, .int .i64 J.u, vG, vR] W ∧ JRow W vS vW vG vR J
theorem JB.below {b : Nat} {vS vW vG vR : Value} {J : JN} {W W' : World} (h : JB b vS vW vG vR J W) (hb : Below W.heap.size W W') : JB b vS vW vG vR J W' := ⟨h.1.below hb, h.2.below hb⟩
theorem JB.made {vS vW vG vR : Value} {J : JN} {V : World} (h : JRow V vS vW vG vR J) : JB V.heap.size vS vW vG vR J (V.alloc (.cells #[vS, vW, .int .i64 J.s, .int .i64 J.h, .int .i64 J.u, vG, vR] 27)) :=
  ⟨Box.made V [vS, vW, .int .i64 J.s, .int .i64 J.h, .int .i64 J.u, vG, vR] _, h.below (al _ _)⟩
theorem may_opened {D : List ByteArray} {t : Jn.Told} {l : List ByteArray} (h : Opens D t l) : May ⟨D, [], t.seals, t.half, t.used, [], l⟩ t :=
  ⟨rfl, h, rfl, rfl, rfl, wait_zero.2 ⟨by simp, by simp, by simp [frms], by have := (opens_may h).2.2.2; simpa [frms] using this⟩⟩

theorem empty_yes {d : ByteArray} (h : d.size = 0) : d.toList.isEmpty = true ∧ (!d.toList.isEmpty) = false ∧ d = ⟨#[]⟩ := by
  have e : d = ⟨#[]⟩ := ByteArray.ext (Array.eq_empty_of_size_eq_zero h)
  subst e
  exact ⟨by decide +kernel, by decide +kernel, rfl⟩
theorem empty_no {d : ByteArray} (h : ¬ d.size = 0) : d.toList.isEmpty = false ∧ (!d.toList.isEmpty) = true := by
  have hb : (d.toList == (⟨#[]⟩ : ByteArray).toList) = false := Go.Proofs.YtlpkalfbcphkmaaGreat.Frame.bytes_no (fun e => h (by rw [e]; rfl))
  have e : (⟨#[]⟩ : ByteArray).toList = [] := by decide +kernel
  rw [e] at hb
  have h2 : d.toList.isEmpty = false := by
    cases hl : d.toList with
    | nil => rw [hl] at hb; simp at hb
    | cons a l => rfl
  exact ⟨h2, by rw [h2]; rfl⟩
theorem thenL_some {J : JN} {d : ByteArray} (h : ¬ d.size = 0) : thenL J d = [d] := by unfold thenL; rw [if_neg h]
theorem thenL_none {J : JN} {d : ByteArray} (h : d.size = 0) : thenL J d = J.l ++ J.g := by unfold thenL; rw [if_pos h]
/-- A row of no texts, just made. -/
theorem own_empty (W : World) {B : Nat} (hB : W.heap.size = B) : OwnS B (.slice (some ⟨B, 0, none⟩) 0 0) [] (W.alloc (.cells #[] 9)) := by
  subst hB
  exact World.ownsRow_made W #[] 0 (Nat.le_refl _) (Nat.zero_le _) rfl
/-- A row of one text, just made. -/
theorem one_row (W : World) (d : ByteArray) : SRow (W.alloc (.cells #[.string d] 9)) (.slice (some ⟨W.heap.size, 0, none⟩) 1 1) [d] :=
  (show OwnS W.heap.size (.slice (some ⟨W.heap.size, 0, none⟩) 1 1) [d] (W.alloc (.cells #[.string d] 9)) from World.ownsRow_lit W #[.string d] 1 (Nat.le_refl _) (by decide) rfl).row
theorem wait_or {n u : Nat} {g : List ByteArray} (h : ∀ d ∈ g, d.size ≤ 1000) : waitE n u g = 0 ∨ waitE n u g = 7 := by
  have h1 : ¬ g.all (fun d => decide (d.size ≤ 1000)) = false := by
    intro hc
    have : g.all (fun d => decide (d.size ≤ 1000)) = true := List.all_eq_true.2 fun d hd => by simpa using h d hd
    rw [this] at hc
    cases hc
  unfold waitE
  rw [if_neg h1]
  by_cases a : 16 < g.length
  · rw [if_pos a]; exact .inr rfl
  rw [if_neg a]
  by_cases b : 3000 < (frms g).length
  · rw [if_pos b]; exact .inr rfl
  rw [if_neg b]
  by_cases c : roomN n < u + (frms g).length
  · rw [if_pos c]; exact .inr rfl
  rw [if_neg c]; exact .inl rfl
theorem row_take {W : World} {g cap : Nat} {l m : List ByteArray} (h : SRow W (.slice (some ⟨g, 0, none⟩) (l ++ m).length cap) (l ++ m)) : SRow W (.slice (some ⟨g, 0, none⟩) l.length cap) l := by
  rcases h with ⟨h1, _⟩ | ⟨g', cap', h1, hc, hg, hce⟩
  · cases h1
  · cases h1
    refine .inr ⟨g, cap, rfl, by rw [List.length_append] at hc; omega, hg, fun j hj => ?_⟩
    have := hce j (by rw [List.length_append]; omega)
    rwa [List.getElem_append_left hj] at this
theorem wrow_nil {W : World} {v : Value} {l : List (Int × ByteArray)} (e : l = []) (h : WRow W v l) : WRow W v [] := e ▸ h
theorem srow_apart {W : World} {v : Value} {ls : List ByteArray} (h : SRow W v ls) {b i n c : Nat} {a : Option Addr} (hb : W.cell? ⟨b, 0, none⟩ = some (.slice a n c)) (u : Value) : SRow (W.setCell ⟨b, i, none⟩ u) v ls := by
  rcases h with h | ⟨g, cap, h1, hc, hg, hce⟩
  · exact .inl h
  · refine .inr ⟨g, cap, h1, hc, by simpa using hg, fun j hj => ?_⟩
    have ne : b ≠ g := by
      intro e
      subst e
      have := hce 0 (by omega)
      rw [hb] at this
      cases this
    rw [World.cell?_setCell_other _ _ _ _ (by intro e; cases e; exact ne rfl)]
    exact hce j hj
theorem wrow_apart {W : World} {v : Value} (h : WRow W v []) {b i : Nat} (u : Value) : WRow (W.setCell ⟨b, i, none⟩ u) v [] := by
  rcases h with h | ⟨g, cap, h1, hc, hg, hce⟩
  · exact .inl h
  · exact .inr ⟨g, cap, h1, hc, by simpa using hg, fun j hj => by simp at hj⟩
theorem JB.stored {b bx i n c : Nat} {a : Option Addr} {vS vW vG vR : Value} {J : JN} {W : World} (h : JB bx vS vW vG vR J W) (hw : J.ws = []) (hb : W.cell? ⟨b, 0, none⟩ = some (.slice a n c)) (hne : bx ≠ b) (u : Value) : JB bx vS vW vG vR J (W.setCell ⟨b, i, none⟩ u) :=
  ⟨h.1.other hne u, ⟨srow_apart h.2.rS hb u, by rw [hw]; exact wrow_apart (by have := h.2.rW; rwa [hw] at this) u, srow_apart h.2.rG hb u, srow_apart h.2.rR hb u⟩⟩
theorem JB.nogroup {b n c : Nat} {a : Option Addr} {vW vG vR : Value} {J : JN} {W : World} (h : JB b (.slice a n c) vW vG vR J W) (hw : J.ws = []) : JB b (.slice a n c) vW (.slice none 0 0) vR ⟨J.ls, J.ws, J.s, J.h, J.u, [], J.l⟩ (W.setCell ⟨b, 5, none⟩ (.slice none 0 0)) :=
  have hb := (h.1.2 0 _ rfl).1
  ⟨h.1.one (i := 5) (by simp) _, ⟨srow_apart h.2.rS hb _, by show WRow _ _ J.ws; rw [hw]; exact wrow_apart (by have := h.2.rW; rwa [hw] at this) _, .inl ⟨rfl, rfl⟩, srow_apart h.2.rR hb _⟩⟩
/-- Texts, which may be none, are appended to a row of the call's own. -/
theorem wp_append_texts {w : World} {o : Oper} {a : Act} {K : Act → World → Prop} {Q : Exit → Act → World → Prop} (s x : Operand)
    (ho : o.op = .call { callee := .builtin .append, args := #[s, x], argTypes := #[22, 22] })
    (base : Nat) (v : Value) (l0 : List ByteArray) (hs : a.eval s = v) (hown : OwnS base v l0 w) (u : Value) (l : List ByteArray) (hx : a.eval x = u) (hrow : SRow w u l) (h0 : l0.length ≤ 100000) (hl : l.length ≤ 100000) (hbase : base ≤ w.heap.size)
    (h : ∀ v' w', OwnS base v' (l0 ++ l) w' → Below base w w' → K (a.put o.dst v') w') : o.wp Tryz.prog a w K Q := by
  obtain ⟨i0, hi, hz0, hz1, hz2⟩ := info_parts Tryz.infoS
  have H := hrow
  rcases hrow with ⟨rfl, rfl⟩ | ⟨g, cap, rfl, hc, hg, hcell⟩
  · have hrun := run_append_owned_none (P := Tryz.prog) (w := w) base 22 o.type 9 i0 1 Tryz.underlying22 hi v l0.length (scells l0) hown
    unfold Oper.wp
    simp only [execOp, ho, resolve, invoke, builtin, Sem.run_bind, Sem.run_pure, Result.andThen_ok, List.map_toArray, List.map_cons, List.map_nil, hs, hx, hrun]
    exact h v w (by rw [List.append_nil]; exact hown) ⟨rfl, rfl, rfl, Nat.le_refl _, fun _ _ => rfl⟩
  · refine wp_append_own w s x 22 ho base 9 i0 (.string ⟨#[]⟩) 1 16 Tryz.underlying22 hi hz0 hz1 hz2 rfl (by decide) v l0.length (scells l0) hs hown ⟨g, 0, none⟩ l.length cap (scells l) hx (by rw [scells_len]; omega) H.news (scells_one l) (by unfold maxLen; omega) (by omega) hbase ?_
    intro v' w1 hown' hgrow _
    refine h v' w1 ?_ ?_
    · unfold OwnS
      have e : scells (l0 ++ l) = scells l0 ++ scells l := by simp [scells]
      rw [e, List.length_append]
      exact hown'
    · exact (show Below base w w from ⟨rfl, rfl, rfl, Nat.le_refl _, fun _ _ => rfl⟩).grown hgrow hbase (fun j hj => (hown.lt j hj).1)
theorem step_append_texts {w : World} {ops : Array Oper} {o : Oper} {a : Act} {K : Act → World → Prop} {Q : Exit → Act → World → Prop} {E : Prop} (hgd : o.guard = none) (d : Nat) (hd : o.dst = some d) (s x : Operand)
    (ho : o.op = .call { callee := .builtin .append, args := #[s, x], argTypes := #[22, 22] })
    (base : Nat) (v : Value) (l0 : List ByteArray) (hs : a.eval s = v) (hown : OwnS base v l0 w) (u : Value) (l : List ByteArray) (hx : a.eval x = u) (hrow : SRow w u l) (h0 : l0.length ≤ 100000) (hl : l.length ≤ 100000) (hbase : base ≤ w.heap.size)
    (h : ∀ v' w', OwnS base v' (l0 ++ l) w' → Below base w w' → K (a.put (some d) v') w') : if Region.wanted o (yielded ops a.tmps) = true then Oper.wp Tryz.prog o a w K Q else E := by
  have hw : Region.wanted o (yielded ops a.tmps) = true := by simp [Region.wanted, hgd]
  rw [if_pos hw]
  rw [← hd] at h
  exact wp_append_texts s x ho base v l0 hs hown u l hx hrow h0 hl hbase h
theorem wpList_append_texts {w : World} {ops : Array Oper} {rest : List Oper} {o : Oper} {a : Act} {Q : Exit → Act → World → Prop} (hgd : o.guard = none) (s x : Operand)
    (ho : o.op = .call { callee := .builtin .append, args := #[s, x], argTypes := #[22, 22] })
    (base : Nat) (v : Value) (l0 : List ByteArray) (hs : a.eval s = v) (hown : OwnS base v l0 w) (u : Value) (l : List ByteArray) (hx : a.eval x = u) (hrow : SRow w u l) (h0 : l0.length ≤ 100000) (hl : l.length ≤ 100000) (hbase : base ≤ w.heap.size)
    (h : ∀ v' w', OwnS base v' (l0 ++ l) w' → Below base w w' → wpList Tryz.prog ops Q rest (a.put o.dst v') w') : wpList Tryz.prog ops Q (o :: rest) a w :=
  wpList_plain hgd fun _ hK => wp_append_texts s x ho base v l0 hs hown u l hx hrow h0 hl hbase fun v' w' h1 h2 => hK _ _ (h v' w' h1 h2)
end Go.Proofs.YtlpkalfbcphkmaaGreat.Disk.Jn

/-
  A row of bytes in a block of its own, told by a list: made of a text, read, written, turned back into a text; a check's contract that keeps it.
-/
namespace Go.Proofs.YtlpkalfbcphkmaaGreat.Crc
open Go.ChangeShapes Go.WideShapes Go.ChangeAt Go.RowKit

/-- Block g holds the bytes l, from its head on, and they may be written. -/
def BRow (g : Nat) (l : List UInt8) (w : World) : Prop := g < w.heap.size ∧ ∀ j (h : j < l.length), w.cell? ⟨g, j, none⟩ = some (.int .u8 (l[j].toNat : Int)) ∧ w.frozen? ⟨g, j, none⟩ = false
theorem BRow.cell {g : Nat} {l : List UInt8} {w : World} (h : BRow g l w) {j : Nat} (hj : j < l.length) : w.cell? ⟨g, j, none⟩ = some (.int .u8 (l[j].toNat : Int)) := (h.2 j hj).1
theorem BRow.free {g : Nat} {l : List UInt8} {w : World} (h : BRow g l w) {j : Nat} (hj : j < l.length) : w.frozen? ⟨g, j, none⟩ = false := (h.2 j hj).2
theorem BRow.below {g : Nat} {l : List UInt8} {w w' : World} (h : BRow g l w) (hb : Below w.heap.size w w') : BRow g l w' :=
  ⟨Nat.lt_of_lt_of_le h.1 hb.size, fun j hj => ⟨by rw [hb.cell (p := ⟨g, j, none⟩) h.1]; exact h.cell hj, by rw [hb.frozen (p := ⟨g, j, none⟩) h.1]; exact h.free hj⟩⟩
theorem BRow.drewN {g : Nat} {l : List UInt8} {w : World} (h : BRow g l w) (n : Nat) : BRow g l (w.drewN n) := h.below (drawnB w n)
theorem BRow.drew {g : Nat} {l : List UInt8} {w : World} (h : BRow g l w) : BRow g l w.drew := h.drewN 1

theorem BRow.set {g : Nat} {l : List UInt8} {w : World} (h : BRow g l w) {k : Nat} (hk : k < l.length) (b : UInt8) {x : Int} (hx : x = (b.toNat : Int)) : BRow g (l.set k b) (w.setCell ⟨g, k, none⟩ (.int .u8 x)) := by
  subst hx
  refine ⟨by simpa using h.1, fun j hj => ?_⟩
  have hj' : j < l.length := by simpa using hj
  refine ⟨?_, ?_⟩
  · by_cases e : k = j
    · subst e
      rw [World.cell?_setCell_same _ _ _ (h.cell hk)]
      simp
    · rw [World.cell?_setCell_other _ _ _ _ (by intro hh; injection hh; contradiction), h.cell hj', List.getElem_set_ne e]
  · rw [World.frozen?_setCell]; exact h.free hj'

/-- '[]byte(s)'. -/
theorem BRow.made (s : ByteArray) (w : World) : ∃ (cap : Nat) (w0 : World), s.size ≤ cap ∧ (convert 9 41 (.string s)).run Tryz.prog w = .ok (.slice (some ⟨w.heap.size, 0, none⟩) s.size cap) w0 ∧ BRow w.heap.size s.data.toList w0 ∧ Below w.heap.size w w0 := by
  refine ⟨_, _, ?_, run_bytes_of_string w 9 41 5 s Tryz.underlying9 Tryz.underlying41 Tryz.underlying5, ⟨?_, fun j hj => ⟨?_, ?_⟩⟩, ?_⟩
  · have := grownCap_ge w s.size 0 5
    omega
  · show w.heap.size < (w.drew.heap.push _).size
    simp
  · have := World.cell?_alloc_mark w.drew (bytesRow s (grownCap w s.size 0 5)) 5 ((bytesRow s (grownCap w s.size 0 5)).size, (bytesRow s (grownCap w s.size 0 5)).size + 1) j
    rw [show w.drew.heap.size = w.heap.size from rfl] at this
    rw [this, bytesRow_at s _ j (by simpa using hj)]
    simp
  · have := World.frozen?_alloc_mark w.drew (bytesRow s (grownCap w s.size 0 5)) 5 (bytesRow s (grownCap w s.size 0 5)).size ((bytesRow s (grownCap w s.size 0 5)).size + 1) j
    rw [show w.drew.heap.size = w.heap.size from rfl] at this
    have hs : j < s.data.size := by simpa using hj
    have hb : s.data.size ≤ (bytesRow s (grownCap w s.size 0 5)).size := by unfold bytesRow; simp
    rw [this]
    simp
    omega
  · exact (Below.refl _ _).drew.alloc (Nat.le_refl _) _

/-- 'string(b)'. -/
theorem BRow.back {g n cap : Nat} {l : List UInt8} {w : World} (h : BRow g l w) (hn : l.length = n) : (convert 41 9 (.slice (some ⟨g, 0, none⟩) n cap)).run Tryz.prog w = .ok (.string ⟨l.toArray⟩) w := by
  subst hn
  refine run_convert_bytes_back w 41 9 5 ⟨g, 0, none⟩ cap l Tryz.underlying41 Tryz.underlying5 Tryz.underlying9 ?_
  intro j hj
  rw [Addr.add_mid, Nat.zero_add]
  exact h.cell hj

/-- Bytes that stay, and all that lay before the call is as it was. -/
def Kept (w0 : World) (g : Nat) (l : List UInt8) (w : World) : Prop := BRow g l w ∧ Below w0.heap.size w0 w
theorem Kept.below {w0 : World} {g : Nat} {l : List UInt8} {w w' : World} (h : Kept w0 g l w) (hb : Below w.heap.size w w') : Kept w0 g l w' := ⟨h.1.below hb, below_trans h.2 hb⟩
theorem Kept.drew {w0 : World} {g : Nat} {l : List UInt8} {w : World} (h : Kept w0 g l w) : Kept w0 g l w.drew := h.below (drawnB w 1)
theorem Of_kept {w0 : World} {g : Nat} {l : List UInt8} {n : Nat} {s : ByteArray} (hs : s.size ≤ maxLen) (e : crcOn 0 s.data.toList = n) {w : World} (h : Kept w0 g l w) :
    Calls Tryz.prog 98 #[.string s] w fun e w' => e = .returned (.int .u32 n) ∧ Kept w0 g l w' := (Of_eq hs e w).mono fun _ _ ⟨he, hb⟩ => ⟨he, h.below hb⟩
end Go.Proofs.YtlpkalfbcphkmaaGreat.Crc
