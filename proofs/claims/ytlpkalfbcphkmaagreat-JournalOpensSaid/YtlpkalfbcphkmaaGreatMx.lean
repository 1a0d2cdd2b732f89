/-
  Joined: JSealA, JOpensA, JHold.
-/
import Derived.Test.YtlpkalfbcphkmaaGreatMw
import Derived.Test.YtlpkalfbcphkmaaGreatMs
import Derived.Test.YtlpkalfbcphkmaaGreatMq

/-
  What Append, Commit and Compact (package journal) make of any journal, in one: for the law JournalSeals.
-/
namespace Go.Proofs.YtlpkalfbcphkmaaGreat.Disk.Jn
open Go.ChangeShapes Go.WideShapes Go.ChangeAt Go.RowKit Go.Lib
open Go.Proofs.YtlpkalfbcphkmaaGreat.Frame (frm frms mk_list mk_size size_list)

def J0 : JN := ⟨[], [], 0, 0, 0, [], []⟩
/-- A journal and an error's number are returned. -/
def JR (J : JN) (k : Int) (w : World) (e : Ending) (w' : World) : Prop := ∃ vS vW vG vR, e = .returned (.tuple #[jv vS vW J.s J.h J.u vG vR, .int .i64 k]) ∧ JRow w' vS vW vG vR J ∧ Below w.heap.size w w'
theorem jr_of {ls : List ByteArray} {ws : List (Int × ByteArray)} {s h u : Int} {g l : List ByteArray} {k : Int} {w : World} {e : Ending} {w' : World} (hE : JE ls ws s h u g l k w e w') : JR ⟨ls, ws, s, h, u, g, l⟩ k w e w' := by
  obtain ⟨vS, vW, vG, vR, rfl, h1, h2, h3, h4, h5⟩ := hE
  exact ⟨vS, vW, vG, vR, rfl, ⟨h1.1, h2.1, h3.1, h4.1⟩, h5⟩
/-- The journal behind sealing. -/
def sealJ (ls : List ByteArray) (t : Told) (half fr : Nat) (bs : List UInt8) (l : List ByteArray) : JN := ⟨sealedL ls t half fr bs, [], (nextT t half fr bs.length).seals, (nextT t half fr bs.length).half, (nextT t half fr bs.length).used, [], l⟩
/-- What the three make of a journal. -/
def SpecS (J : JN) (d : ByteArray) (Ja : JN) (ka : Int) (Jb : JN) (kb : Int) (Jc : JN) (kc : Int) : Prop :=
  ((∀ t, ¬ May J t) ∧ ka = 1 ∧ kb = 1 ∧ kc = 1 ∧ Ja = J0 ∧ Jb = J0 ∧ Jc = J0) ∨
  ∃ t, May J t ∧ (ka = waitE J.ls.length t.used (J.g ++ [d]) ∧ ((ka = 0 ∧ Ja = ⟨J.ls, [], J.s, J.h, J.u, J.g ++ [d], J.l⟩) ∨ (ka ≠ 0 ∧ Ja = J0))) ∧
    ((t.seals = 1099511627776 ∧ kb = 7 ∧ Jb = J0) ∨ (t.seals < 1099511627776 ∧ kb = 0 ∧ Jb = sealJ J.ls t t.half t.used (frms J.g) (J.l ++ J.g))) ∧
    ((kc ≠ 0 ∧ kc = insteadE J.ls.length t.seals d ∧ Jc = J0) ∨ (insteadE J.ls.length t.seals d = 0 ∧ kc = 0 ∧ Jc = sealJ J.ls t (1 - t.half) 0 (frm d) [d]))
theorem seals_three {J : JN} (hz : JSmall J) {d : ByteArray} (hd : d.size ≤ 1000000) : ∃ Ja ka Jb kb Jc kc, SpecS J d Ja ka Jb kb Jc kc ∧
    (∀ w vS vW vG vR, JRow w vS vW vG vR J → Calls Tryz.prog 16 #[jv vS vW J.s J.h J.u vG vR, .string d] w (JR Ja ka w)) ∧
    (∀ w vS vW vG vR, JRow w vS vW vG vR J → Calls Tryz.prog 17 #[jv vS vW J.s J.h J.u vG vR] w (JR Jb kb w)) ∧
    (∀ w vS vW vG vR, JRow w vS vW vG vR J → Calls Tryz.prog 18 #[jv vS vW J.s J.h J.u vG vR, .string d] w (JR Jc kc w)) := by
  by_cases hm : ∃ t, May J t
  case neg =>
    have hno : ∀ t, ¬ May J t := fun t h => hm ⟨t, h⟩
    exact ⟨J0, 1, J0, 1, J0, 1, .inl ⟨hno, rfl, rfl, rfl, rfl, rfl, rfl⟩, fun w vS vW vG vR h => (Append_bad h hz hno d).mono fun _ _ => jr_of, fun w vS vW vG vR h => (Commit_bad h hz hno).mono fun _ _ => jr_of, fun w vS vW vG vR h => (Compact_bad h hz hno d).mono fun _ _ => jr_of⟩
  obtain ⟨t, hm⟩ := hm
  have hmp := opens_may hm.op
  have hA : ∃ Ja ka, (ka = waitE J.ls.length t.used (J.g ++ [d]) ∧ ((ka = 0 ∧ Ja = ⟨J.ls, [], J.s, J.h, J.u, J.g ++ [d], J.l⟩) ∨ (ka ≠ 0 ∧ Ja = J0))) ∧ (∀ w vS vW vG vR, JRow w vS vW vG vR J → Calls Tryz.prog 16 #[jv vS vW J.s J.h J.u vG vR, .string d] w (JR Ja ka w)) := by
    by_cases hk : waitE J.ls.length t.used (J.g ++ [d]) = 0
    · exact ⟨_, 0, ⟨hk.symm, .inl ⟨rfl, rfl⟩⟩, fun w vS vW vG vR h => (Append_any h hm d hd).mono fun _ _ hE => jr_of (hE.1 hk)⟩
    · exact ⟨J0, _, ⟨rfl, .inr ⟨hk, rfl⟩⟩, fun w vS vW vG vR h => (Append_any h hm d hd).mono fun _ _ hE => jr_of (hE.2 hk)⟩
  have hB : ∃ Jb kb, ((t.seals = 1099511627776 ∧ kb = 7 ∧ Jb = J0) ∨ (t.seals < 1099511627776 ∧ kb = 0 ∧ Jb = sealJ J.ls t t.half t.used (frms J.g) (J.l ++ J.g))) ∧ (∀ w vS vW vG vR, JRow w vS vW vG vR J → Calls Tryz.prog 17 #[jv vS vW J.s J.h J.u vG vR] w (JR Jb kb w)) := by
    by_cases hs : t.seals = 1099511627776
    · exact ⟨J0, 7, .inl ⟨hs, rfl, rfl⟩, fun w vS vW vG vR h => (Commit_any h hm).mono fun _ _ hE => jr_of (hE.1 hs)⟩
    · have hlt : t.seals < 1099511627776 := by have := hmp.2.2.1; omega
      exact ⟨_, 0, .inr ⟨hlt, rfl, rfl⟩, fun w vS vW vG vR h => (Commit_any h hm).mono fun _ _ hE => jr_of (hE.2 hlt)⟩
  have hC : ∃ Jc kc, ((kc ≠ 0 ∧ kc = insteadE J.ls.length t.seals d ∧ Jc = J0) ∨ (insteadE J.ls.length t.seals d = 0 ∧ kc = 0 ∧ Jc = sealJ J.ls t (1 - t.half) 0 (frm d) [d])) ∧ (∀ w vS vW vG vR, JRow w vS vW vG vR J → Calls Tryz.prog 18 #[jv vS vW J.s J.h J.u vG vR, .string d] w (JR Jc kc w)) := by
    by_cases hk : insteadE J.ls.length t.seals d = 0
    · refine ⟨_, 0, .inr ⟨hk, rfl, rfl⟩, fun w vS vW vG vR h => (Compact_any h hm d hd).mono fun _ _ hE => ?_⟩
      have := jr_of (hE.2 hk)
      have e : (⟨sealedL J.ls t (1 - t.half) 0 (frm d), [], (t.seals : Int) + 1, 1 - (t.half : Int), ((frm d).length : Int), [], [d]⟩ : JN) = sealJ J.ls t (1 - t.half) 0 (frm d) [d] := by
        unfold sealJ nextT
        rw [show ((t.seals : Int) + 1) = ((t.seals + 1 : Nat) : Int) by omega, ← half_cast hmp.1, Nat.zero_add]
      rwa [e] at this
    · exact ⟨J0, _, .inl ⟨hk, rfl, rfl⟩, fun w vS vW vG vR h => (Compact_any h hm d hd).mono fun _ _ hE => jr_of (hE.1 hk)⟩
  obtain ⟨Ja, ka, a1, a2⟩ := hA
  obtain ⟨Jb, kb, b1, b2⟩ := hB
  obtain ⟨Jc, kc, c1, c2⟩ := hC
  exact ⟨Ja, ka, Jb, kb, Jc, kc, .inr ⟨t, hm, a1, b1, c1⟩, a2, b2, c2⟩
/-- A journal is returned. -/
def SealR (J : JN) (w : World) (e : Ending) (w' : World) : Prop := ∃ vS vW vR, e = .returned (jv vS vW J.s J.h J.u (.slice none 0 0) vR) ∧ JRow w' vS vW (.slice none 0 0) vR J ∧ Below w.heap.size w w'
theorem refSealed_j {vS vW vG vR : Value} {ls : List ByteArray} {w : World} (hS : SRow w vS ls) (hW : WRow w vW []) {t : Told} {l : List ByteArray} (ho : Opens ls t l) {half fr : Nat} {bs : List UInt8} {l' : List ByteArray} (hse : Seals ls t half fr bs l') (h u : Int) :
    Calls Tryz.prog 20 #[.agg #[vS, vW, .int .i64 t.seals, .int .i64 h, .int .i64 u, vG, vR], .int .i64 half, .int .i64 fr, .string ⟨bs.toArray⟩] w (SealR (sealJ ls t half fr bs l') w) := by
  have h1 := refSealed_any (vG := vG) (vR := vR) (S := ⟨bs.toArray⟩) hS hW ho (by rw [mk_list]; exact hse) h u
  rw [mk_list, mk_size] at h1
  exact h1.mono fun _ _ h2 => h2
/-- Small enough to be compared. -/
def JLen (J : JN) : Prop := J.ls.length ≤ 1000 ∧ J.ws.length ≤ 1000 ∧ J.g.length ≤ 1000000 ∧ J.l.length ≤ 1000000
theorem len_zero : JLen J0 := ⟨by simp [J0], by simp [J0], by simp [J0], by simp [J0]⟩
theorem sealed_len (ls : List ByteArray) (t : Told) (half fr : Nat) (bs : List UInt8) : (sealedL ls t half fr bs).length = ls.length := by unfold sealedL; rw [flush_len, flushed_len]
theorem spec_len {J : JN} (hz : JSmall J) {d : ByteArray} {Ja Jb Jc : JN} {ka kb kc : Int} (h : SpecS J d Ja ka Jb kb Jc kc) : JLen Ja ∧ JLen Jb ∧ JLen Jc := by
  have h1 := hz.d.1
  have h2 := hz.g1
  have h3 := hz.l1
  rcases h with ⟨_, _, _, _, rfl, rfl, rfl⟩ | ⟨t, hm, ⟨_, ha⟩, hb, hc⟩
  · exact ⟨len_zero, len_zero, len_zero⟩
  · refine ⟨?_, ?_, ?_⟩
    · rcases ha with ⟨_, rfl⟩ | ⟨_, rfl⟩
      · exact ⟨h1, by simp, by simp; omega, by simp; omega⟩
      · exact len_zero
    · rcases hb with ⟨_, _, rfl⟩ | ⟨_, _, rfl⟩
      · exact len_zero
      · exact ⟨by show (sealedL _ _ _ _ _).length ≤ _; rw [sealed_len]; exact h1, by simp [sealJ], by simp [sealJ], by simp [sealJ]; omega⟩
    · rcases hc with ⟨_, _, rfl⟩ | ⟨_, _, rfl⟩
      · exact len_zero
      · exact ⟨by show (sealedL _ _ _ _ _).length ≤ _; rw [sealed_len]; exact h1, by simp [sealJ], by simp [sealJ], by simp [sealJ]⟩
/-- Two that are alike. -/
theorem like_jb {a b : Nat} {aS aW aG aR bS bW bG bR : Value} {J : JN} {W : World} (ha : JB a aS aW aG aR J W) (hb : JB b bS bW bG bR J W) (hl : JLen J) : Calls Tryz.prog 10 #[jv aS aW J.s J.h J.u aG aR, jv bS bW J.s J.h J.u bG bR] W (BoolB true W) :=
  refLike_yes ha.2 hb.2 hl.1 hl.2.1 hl.2.2.1 hl.2.2.2
end Go.Proofs.YtlpkalfbcphkmaaGreat.Disk.Jn

/-
  What the law JournalOpens needs: Format of what it refuses; Open, and Right, of any disk and journal, beside the reference's.
-/
namespace Go.Proofs.YtlpkalfbcphkmaaGreat.Disk.Jn
open Go.ChangeShapes Go.WideShapes Go.ChangeAt Go.RowKit Go.Lib
open Go.Proofs.YtlpkalfbcphkmaaGreat.Frame (frm frms)

set_option maxHeartbeats 2000000 in
set_option maxRecDepth 100000 in
theorem Format_no (n : Int) (h : n < 8 ∨ 512 < n) (w : World) : Calls Tryz.prog 14 #[.int .i64 n] w (JE [] [] 0 0 0 [] [] 1 w) := by
  have HB := Lib.hid (al w (.cells #[.slice none 0 0, .slice none 0 0, .int .i64 0, .int .i64 0, .int .i64 0, .slice none 0 0, .slice none 0 0] 27))
  by_cases h8 : n < 8
  · clear h
    go_enter Tryz.func14, Tryz.ntmps14
    go_wp2_with fail
    exact bodyPost_ret (v := .tuple #[.agg #[.slice none 0 0, .slice none 0 0, .int .i64 0, .int .i64 0, .int .i64 0, .slice none 0 0, .slice none 0 0], .int .i64 1]) (by simp [results, Tryz.results14, go_sem]) rfl (je_zero HB.out)
  · have h8' : ¬ n < 8 := h8
    have hm : mayB n = false := mayB_f.2 (by omega)
    have HZ := Lib.hid (Box.made w z7 27)
    have HN := Lib.hid (fun W => New_no n hm W)
    clear h hm h8
    go_enter Tryz.func14, Tryz.ntmps14
    go_wp2_with fail
    refine (HN.out _).mono ?_
    rintro e X ⟨vS, vW, rfl, hS, hW, hx⟩
    obtain ⟨a1, p1, rfl⟩ := hS.1.slice
    obtain ⟨a2, p2, rfl⟩ := hW.1.slice
    have HX := Lib.hid (And.intro (below_trans HB.out hx) (Box.below HZ.out hx))
    clear hS hW hx
    have HE := Lib.hid (And.intro (below_trans HX.out.1 (al X (.cells #[.slice a1 ([] : List ByteArray).length p1, .slice a2 ([] : List (Int × ByteArray)).length p2] 25))) (Box.below HX.out.2 (al X (.cells #[.slice a1 ([] : List ByteArray).length p1, .slice a2 ([] : List (Int × ByteArray)).length p2] 25))))
    simp only [List.length_nil] at HE ⊢
    obtain ⟨f0, f1, f2, f3, f4, f5, f6⟩ := Box.f7 HE.out.2
    obtain ⟨r0, r1, r2, r3, r4, r5, r6⟩ := Box.c7 HE.out.2
    have HQ := Lib.hid (And.intro (Box.st7 HE.out.2 (.slice none 0 0) (.slice none 0 0) (.int .i64 0) (.int .i64 0) (.int .i64 0) (.slice none 0 0) (.slice none 0 0)) (below_st7 HE.out.1 (Nat.le_refl _) (.slice none 0 0) (.slice none 0 0) (.int .i64 0) (.int .i64 0) (.int .i64 0) (.slice none 0 0) (.slice none 0 0)))
    go_wp2_with fail
    obtain ⟨z0, z1, z2, z3, z4, z5, z6⟩ := HQ.out.1.c7
    exact bodyPost_ret (v := .tuple #[.agg #[.slice none 0 0, .slice none 0 0, .int .i64 0, .int .i64 0, .int .i64 0, .slice none 0 0, .slice none 0 0], .int .i64 1]) (by simp [results, Tryz.results14, go_sem, z0, z1, z2, z3, z4, z5, z6]) rfl (je_zero HQ.out.2)

/-- The reference's answer: a journal, and an error's number. -/
def TR (J : JN) (k : Int) (w : World) (e : Ending) (w' : World) : Prop := ∃ vS vW vG vR, e = .returned (tv8 vS vW J.s J.h J.u vG vR k) ∧ JRow w' vS vW vG vR J ∧ Below w.heap.size w w'
theorem opens_two {ls : List ByteArray} {ws : List (Int × ByteArray)} (hz : smallP ls ws) : ∃ Ja ka, JLen Ja ∧
    (∀ w vS vW, SRow w vS ls → WRow w vW ws → Calls Tryz.prog 8 #[.agg #[vS, vW]] w (JR Ja ka w)) ∧
    (∀ w vS vW, SRow w vS ls → WRow w vW ws → Calls Tryz.prog 9 #[.agg #[vS, vW]] w (TR Ja ka w)) := by
  rcases open_or ls ws with ⟨k, hf⟩ | ⟨rfl, t, l, ho⟩
  · refine ⟨J0, k, len_zero, fun w vS vW h1 h2 => (Open_no h1 h2 hz hf).mono fun _ _ => jr_of, fun w vS vW h1 h2 => (refOpen_no h1 h2 hz hf).mono fun _ _ h => ?_⟩
    obtain ⟨rfl, hb⟩ := h
    exact ⟨_, _, _, _, rfl, ⟨.inl ⟨rfl, rfl⟩, .inl ⟨rfl, rfl⟩, .inl ⟨rfl, rfl⟩, .inl ⟨rfl, rfl⟩⟩, hb⟩
  · have hr := opens_recs ho
    refine ⟨⟨ls, [], t.seals, t.half, t.used, [], l⟩, 0, ⟨hz.1, by simp, by simp, by show l.length ≤ _; omega⟩, fun w vS vW h1 h2 => (Open_yes h1 h2 ho).mono fun _ _ => jr_of, fun w vS vW h1 h2 => (refOpen_yes h1 h2 ho).mono fun _ _ h => ?_⟩
    obtain ⟨vR, rfl, hR, hb⟩ := h
    exact ⟨_, _, _, _, rfl, ⟨h1.below hb, h2.below hb, .inl ⟨rfl, rfl⟩, hR⟩, hb⟩
theorem right_two {J : JN} (hz : JSmall J) (hg : J.g.length ≤ 100) : ∃ b,
    (∀ w vS vW vG vR, JRow w vS vW vG vR J → Calls Tryz.prog 11 #[jv vS vW J.s J.h J.u vG vR] w (BoolB b w)) ∧
    (∀ w vS vW vG vR, JRow w vS vW vG vR J → Calls Tryz.prog 12 #[jv vS vW J.s J.h J.u vG vR] w (BoolB b w)) := by
  by_cases h : ∃ t, May J t
  · obtain ⟨t, h⟩ := h
    exact ⟨true, fun w vS vW vG vR hJ => Right_yes hJ h, fun w vS vW vG vR hJ => refRight_yes hJ hg h⟩
  · have hno : ∀ t, ¬ May J t := fun t ht => h ⟨t, ht⟩
    exact ⟨false, fun w vS vW vG vR hJ => Right_no hJ hz hno, fun w vS vW vG vR hJ => refRight_no hJ hz hg hno⟩
end Go.Proofs.YtlpkalfbcphkmaaGreat.Disk.Jn

/-
  Steps by hand in a drawn region whose last operations write the cells that its loads read: the condition on the world is asked up to those operations only.
-/
namespace Go.Proofs.YtlpkalfbcphkmaaGreat.Disk.Jn
open Go.ChangeShapes Go.WideShapes Go.ChangeAt Go.RowKit Go.Shelf Go.Lib

section
variable {P : Program} {ops : Array Oper} {Q : Exit → Act → World → Prop} {md : Region.Mode} {S : World → Prop} {B : Nat → Bool}

/-- In whatever order it goes on: behind each operation that is none of B the world is such as S says. -/
def Till (P : Program) (md : Region.Mode) (ops : Array Oper) (Q : Exit → Act → World → Prop) (S : World → Prop) (B : Nat → Bool) : Nat → Array Bool → Act → World → Prop
  | 0, done, a, w => Region.ready md ops done = [] ∧ Q .normal a w
  | n + 1, done, a, w => (Region.ready md ops done = [] → Q .normal a w) ∧
      ∀ j ∈ Region.ready md ops done, wpOp P ops Q j (fun a' w' => (B j = false → S w') ∧ Till P md ops Q S B n (done.setIfInBounds j true) a' w') a w

theorem till_any : ∀ (n : Nat) (done : Array Bool) (a : Act) (w : World), Till P md ops Q S B n done a w → wpAny P md ops Q n done a w
  | 0, _, _, _, h => h
  | n + 1, _, _, _, h => ⟨h.1, fun j hj => wpOp_mono (fun a' w' hk => till_any n _ a' w' hk.2) (h.2 j hj)⟩

/-- Each of K waits for i, or for another one of K; all of B are of K; none of K has come up. -/
def waitsK (md : Region.Mode) (ops : Array Oper) (B : Nat → Bool) (K : List Nat) (i : Nat) : Bool :=
  (List.range ops.size).all fun j => (!B j || K.contains j) && (!K.contains j || match ops[j]? with | some o => o.after.any (fun e => Region.binds md e && (e.on == i || K.contains e.on)) | none => true)
def noneK (K : List Nat) (done : Array Bool) : Bool := K.all fun k => !done.getD k true
theorem waitsK_in {K : List Nat} {i : Nat} (h : waitsK md ops B K i = true) {j : Nat} {o : Oper} (ho : ops[j]? = some o) : (B j = true → K.contains j = true) ∧ (K.contains j = true → ∃ e ∈ o.after, Region.binds md e = true ∧ (e.on = i ∨ K.contains e.on = true)) := by
  have h1 := List.all_eq_true.1 h j (List.mem_range.2 (Array.getElem?_eq_some_iff.1 ho).1)
  rw [ho] at h1
  simp only [Bool.and_eq_true, Bool.or_eq_true, Bool.not_eq_true'] at h1
  refine ⟨fun hb => ?_, fun hk => ?_⟩
  · rcases h1.1 with h2 | h2
    · rw [hb] at h2; cases h2
    · exact h2
  · rcases h1.2 with h2 | h2
    · rw [hk] at h2; cases h2
    · obtain ⟨e, he, h3⟩ := Array.any_eq_true'.1 h2
      simp only [Bool.and_eq_true, Bool.or_eq_true, beq_iff_eq] at h3
      exact ⟨e, he, h3.1, h3.2⟩
theorem noneK_at {K : List Nat} {done : Array Bool} (h : noneK K done = true) {k : Nat} (hk : K.contains k = true) : done.getD k true = false := by
  have := List.all_eq_true.1 h k (by simpa using hk)
  simpa using this
theorem undone {done : Array Bool} {k : Nat} (h : done.getD k true = false) (b : Bool) : ¬ done.getD k b = true := by
  intro hb
  rcases Nat.lt_or_ge k done.size with hl | hl
  · simp [hl] at h hb
    rw [h] at hb
    cases hb
  · simp [Array.getElem?_eq_none hl] at h

/-- One that may come up, and whose value hangs on S alone, is taken first. -/
theorem till_take {i : Nat} {oi : Oper} {v : Value} (hi : ops[i]? = some oi) (hns : Region.noSelect ops = true)
    (hQ : ∀ c a w, Q (.panic c) (a.put oi.dst v) w → Q (.panic c) a w) (hB : B i = false) {K : List Nat} (hwB : waitsK md ops B K i = true) (n : Nat) :
    ∀ (done : Array Bool) (a : Act) (w : World),
      (∀ j oj, ops[j]? = some oj → j ≠ i → done.getD j true = false → (∀ e ∈ oj.after, Region.binds md e = true → e.on ≠ i) → oi.apart ops oj = true) →
      noneK K done = true → i ∈ Region.ready md ops done → YieldsIf P ops S oi v a → S w →
      Till P md ops Q S B n (done.setIfInBounds i true) (a.put oi.dst v) w → Till P md ops Q S B (n + 1) done a w := by
  induction n with
  | zero =>
    intro done a w _ _ hr hy hS h
    refine ⟨fun e => absurd hr (by rw [e]; exact List.not_mem_nil), fun j hj => ?_⟩
    by_cases c : j = i
    · subst c
      exact hy.wpOp hi hS ⟨fun _ => hS, h⟩
    · have := ready_mono hj c
      rw [h.1] at this
      exact absurd this List.not_mem_nil
  | succ n ih =>
    intro done a w hfree hnK hr hy hS h
    refine ⟨fun e => absurd hr (by rw [e]; exact List.not_mem_nil), fun j hj => ?_⟩
    by_cases c : j = i
    · subst c
      exact hy.wpOp hi hS ⟨fun _ => hS, h⟩
    obtain ⟨hun, oj, hoj, hall⟩ := mem_ready.1 hj
    have hno : ∀ e ∈ oj.after, Region.binds md e = true → e.on ≠ i := fun e he hb heq => undone (mem_ready.1 hr).1 false (heq ▸ hall e he hb)
    have hKj : K.contains j = false := by
      cases hc : K.contains j with
      | false => rfl
      | true =>
        obtain ⟨e, he, hb, h3⟩ := (waitsK_in hwB hoj).2 hc
        rcases h3 with h3 | h3
        · exact absurd h3 (hno e he hb)
        · exact absurd (hall e he hb) (undone (noneK_at hnK h3) false)
    have hBj : B j = false := by
      cases hc : B j with
      | false => rfl
      | true => rw [(waitsK_in hwB hoj).1 hc] at hKj; cases hKj
    have hnK' : noneK K (done.setIfInBounds j true) = true := List.all_eq_true.2 fun k hk => by
      have hk' : K.contains k = true := by simpa using hk
      have hne : j ≠ k := fun e => by rw [e, hk'] at hKj; cases hKj
      rw [getD_set_ne true hne, noneK_at hnK hk']
      rfl
    have hstep := wpOp_putIf hoj (hfree j oj hoj c hun hno) (fun cs b => Region.noSelect_spec hns i oi cs b hi) (fun cs b => Region.noSelect_spec hns j oj cs b hoj) hQ hy (h.2 j (ready_mono hj c))
    refine wpOp_mono (fun a' w' hk => ?_) hstep
    have hS' : S w' := hk.2.1 hBj
    refine ⟨fun _ => hS', ih (done.setIfInBounds j true) a' w' (fun k ok hok hki hkun hkno => ?_) hnK' (ready_mono hr (Ne.symm c)) hk.1 hS' ?_⟩
    · refine hfree k ok hok hki ?_ hkno
      by_cases cjk : j = k
      · subst cjk; exact hun
      · rwa [getD_set_ne true cjk] at hkun
    · rw [Array.setIfInBounds_comm _ _ c]
      exact hk.2.2

/-- Taken first, its slot and value given. -/
theorem takeT (i d : Nat) (K : List Nat) (v : Value) {oi : Oper} {n : Nat} {done : Array Bool} {a : Act} {w : World} (hQ : Calm Q) (hi : ops[i]? = some oi) (hd : oi.dst = some d) (hns : Region.noSelect ops = true) (hB : B i = false) (hwB : waitsK md ops B K i = true) (hnK : noneK K done = true)
    (hf : Region.free md ops done i = true) (hr : (Region.ready md ops done).contains i = true) (hw : Region.wanted oi (yielded ops a.tmps) = true) (hy : ∀ w, S w → (execOp a.eval oi).run P w = .ok (.value v) w) (hS : S w)
    (h : Till P md ops Q S B n (done.setIfInBounds i true) (a.put (some d) v) w) : Till P md ops Q S B (n + 1) done a w :=
  till_take hi hns (fun c a w' => hQ c a _ _ w') hB hwB n done a w (fun j oj hj hne hun hno => Region.free_spec hi hf j oj hj hne hun hno) hnK (by simpa using hr) (.inl ⟨hw, hy⟩) hS (by rw [hd]; exact h)

def Each (P : Program) (md : Region.Mode) (ops : Array Oper) (Q : Exit → Act → World → Prop) (S : World → Prop) (B : Nat → Bool) (n : Nat) (done : Array Bool) (a : Act) (w : World) (rs : List Nat) : Prop :=
  ∀ j ∈ rs, wpOp P ops Q j (fun a' w' => (B j = false → S w') ∧ Till P md ops Q S B n (done.setIfInBounds j true) a' w') a w
theorem Each.nil {n : Nat} {done : Array Bool} {a : Act} {w : World} : Each P md ops Q S B n done a w [] := fun _ h => absurd h List.not_mem_nil
theorem Each.cons {n : Nat} {done : Array Bool} {a : Act} {w : World} {i : Nat} {o : Oper} {rs : List Nat} (ho : ops[i]? = some o)
    (h : ∀ K : Act → World → Prop, Shut (∀ a w, (B i = false → S w) → Till P md ops Q S B n (done.setIfInBounds i true) a w → K a w) → if Region.wanted o (yielded ops a.tmps) = true then Oper.wp P o a w K Q else K (a.put o.dst undef) w)
    (hs : Each P md ops Q S B n done a w rs) : Each P md ops Q S B n done a w (i :: rs) := fun j hj => by
  rcases List.mem_cons.1 hj with rfl | hj
  · exact wpOp_step ho (fun K hK => h K (fun a w h1 h2 => hK a w ⟨h1, h2⟩))
  · exact hs j hj
theorem till_ready {rs : List Nat} {n : Nat} {done : Array Bool} {a : Act} {w : World} (hr : Region.ready md ops done = rs) (hne : rs ≠ []) (h : Each P md ops Q S B n done a w rs) : Till P md ops Q S B (n + 1) done a w :=
  ⟨fun e => absurd (hr ▸ e) hne, hr ▸ h⟩
theorem till_done {done : Array Bool} {a : Act} {w : World} (hr : Region.ready md ops done = []) (h : Q .normal a w) : ∀ n, Till P md ops Q S B n done a w
  | 0 => ⟨hr, h⟩
  | _ + 1 => ⟨fun _ => h, by rw [hr]; exact fun _ h => absurd h List.not_mem_nil⟩
theorem till_region {id : Nat} {a : Act} {w : World} (S : World → Prop) (B : Nat → Bool) (hm : P.follows .mixedOrders = true) (h : Till P .any ops Q S B ops.size (Array.replicate ops.size false) a w.drew) : (Code.region id ops true).wp P Q a w :=
  wp_region_any hm (till_any _ _ _ _ h)
end
theorem SRow.st9 {b : Nat} {v : Value} {l : List ByteArray} {W : World} (h : SRow W v l) (hf : From (b + 1 + 1) v) (x0 x1 u0 u1 u2 u3 u4 u5 u6 : Value) : SRow (s7 ((W.setCell ⟨b, 0, none⟩ x0).setCell ⟨b, 1, none⟩ x1) (b + 1) u0 u1 u2 u3 u4 u5 u6) v l :=
  SRow.st7 ((h.stored (hf.mono (by omega))).stored (hf.mono (by omega))) hf _ _ _ _ _ _ _
theorem WRow.st9 {b : Nat} {v : Value} {l : List (Int × ByteArray)} {W : World} (h : WRow W v l) (hf : From (b + 1 + 1) v) (x0 x1 u0 u1 u2 u3 u4 u5 u6 : Value) : WRow (s7 ((W.setCell ⟨b, 0, none⟩ x0).setCell ⟨b, 1, none⟩ x1) (b + 1) u0 u1 u2 u3 u4 u5 u6) v l :=
  ((((((((h.stored (hf.mono (by omega))).stored (hf.mono (by omega))).stored hf).stored hf).stored hf).stored hf).stored hf).stored hf).stored hf
end Go.Proofs.YtlpkalfbcphkmaaGreat.Disk.Jn
