/-
  Joined: JHeadAt, JHeadAtW, JNewest, AliveCrc.
-/
import Derived.Test.YtlpkalfbcphkmaaGreatMk
import Derived.ChangeKeysEq
import Derived.Laws.StructEq
import Derived.Deep.RegionHeld3
import Derived.Deep.MidRow
import Derived.Test.YtlpkalfbcphkmaaGreatMh

/-
  Contracts of headAt and newest (package journal): which sector is a head, and which is the newest.
-/
namespace Go.Proofs.YtlpkalfbcphkmaaGreat.Disk.Jn
open Go.ChangeShapes Go.WideShapes Go.ChangeAt Go.RowKit Go.Lib

theorem plainByte : Tryz.prog.plainKey 5 = true := by kernel_rfl
theorem cellsByte : Tryz.prog.cellsOf 5 = 1 := by kernel_rfl
theorem guardHead : Tryz.prog.eqGuardType Tryz.prog.depth 76 = false := by kernel_rfl
theorem eqItems_bytes (d : Nat) (l l' : List UInt8) (w : World) : ∀ is : List Nat, (∀ i ∈ is, i < l.length ∧ i < l'.length) → (Op.eqItems (d + 1) 5 1 (ar l) (ar l') is).run Tryz.prog w = .ok (decide (∀ i ∈ is, l[i]? = l'[i]?)) w
  | [], _ => by simp [Op.eqItems]
  | i :: is, h => by
    obtain ⟨h1, h2⟩ := h i (by simp)
    have p1 := run_part_plain (P := Tryz.prog) w plainByte (xs := ar l) (off := i * 1) (v := .int .u8 (l[i].toNat : Int)) (by rw [Nat.mul_one, ar_at, List.getElem?_eq_getElem h1]; rfl)
    have p2 := run_part_plain (P := Tryz.prog) w plainByte (xs := ar l') (off := i * 1) (v := .int .u8 (l'[i].toNat : Int)) (by rw [Nat.mul_one, ar_at, List.getElem?_eq_getElem h2]; rfl)
    have p3 := run_equalIn_int (P := Tryz.prog) w d 5 .u8 .u8 (l[i].toNat : Int) (l'[i].toNat : Int) Tryz.underlying5
    have ih := eqItems_bytes d l l' w is (fun j hj => h j (by simp [hj]))
    simp only [Op.eqItems, Sem.run_bind, p1, p2, p3, Result.andThen_ok]
    by_cases e : l[i] = l'[i]
    · have hb : ((l[i].toNat : Int) == (l'[i].toNat : Int)) = true := by rw [e]; simp
      have key : decide (∀ j ∈ is, l[j]? = l'[j]?) = decide (∀ j ∈ i :: is, l[j]? = l'[j]?) := decide_eq_decide.2 (by simp [List.getElem?_eq_getElem h1, List.getElem?_eq_getElem h2, e])
      rw [hb, ← key]
      simp only [Bool.not_true, Bool.false_eq_true, if_false, ih]
    · have hb : ((l[i].toNat : Int) == (l'[i].toNat : Int)) = false := by
        rw [beq_eq_false_iff_ne]
        intro c
        exact e (UInt8.toNat_inj.1 (by omega))
      have key : decide (∀ j ∈ i :: is, l[j]? = l'[j]?) = false := by
        rw [decide_eq_false_iff_not]
        intro c
        have := c i (by simp)
        rw [List.getElem?_eq_getElem h1, List.getElem?_eq_getElem h2] at this
        exact e (Option.some.inj this)
      rw [hb, key]
      simp only [Bool.not_false, if_true, Sem.run_pure]
theorem run_neq_head {l l' : List UInt8} (h : l.length = 64) (h' : l'.length = 64) (w : World) : (binOp .neq 76 (.agg (ar l)) (.agg (ar l'))).run Tryz.prog w = .ok (.bool (!decide (l = l'))) w := by
  obtain ⟨i, hi⟩ := info_of_underlying Tryz.underlying5
  rw [run_neq_struct, run_equalIn_array w 9999 (ar l) (ar l') Tryz.underlying76 hi, cellsByte, eqItems_bytes 9998 l l' w _ (fun i hi => by rw [List.mem_range] at hi; omega)]
  have e : decide (∀ i ∈ List.range 64, l[i]? = l'[i]?) = decide (l = l') := by
    apply decide_eq_decide.2
    constructor
    · intro e
      apply List.ext_getElem?
      intro i
      by_cases hi : i < 64
      · exact e i (List.mem_range.2 hi)
      · rw [List.getElem?_eq_none (by omega), List.getElem?_eq_none (by omega)]
    · rintro rfl i _
      rfl
  rw [e]
  rfl

theorem tell_head {n : Nat} {t : Told} (hn : n ≤ 1000) (h : mayP n t) : tellN (headL t) = ((t.half : Int), (t.seals : Int), (t.used : Int)) := by
  obtain ⟨h1, h2, h3, h4⟩ := h
  have e1 : cut (headL t) 6 8 = low t.seals 8 := by
    have : (headL t).drop 6 = low t.seals 8 ++ ((low t.used 4 ++ List.replicate 14 0) ++ halfL t) := by simp [headL, halfL]
    unfold cut
    rw [this, List.take_left' (low_len _ _)]
  have e2 : cut (headL t) 14 4 = low t.used 4 := by
    have : (headL t).drop 14 = low t.used 4 ++ (List.replicate 14 0 ++ halfL t) := by
      simp only [headL, halfL, List.append_assoc, List.cons_append, List.nil_append, List.drop_succ_cons]
      rw [List.drop_left' (low_len _ _)]
    unfold cut
    rw [this, List.take_left' (low_len _ _)]
  have e3 : (headL t).getD 5 0 = UInt8.ofNat t.half := rfl
  unfold roomN hsN at h4
  unfold tellN
  rw [e1, e2, e3, num_low, num_low]
  unfold wrap64
  simp only [Prod.mk.injEq]
  refine ⟨by simp; omega, by omega, by omega⟩

/-- What is told, or nothing. -/
def tv : Option Told → Value
  | some t => .agg #[.int .i64 t.half, .int .i64 t.seals, .int .i64 t.used]
  | none => .agg #[.int .i64 0, .int .i64 0, .int .i64 0]
def HeadE (o : Option Told) (w : World) (e : Ending) (w' : World) : Prop := e = .returned (.tuple #[tv o, .bool o.isSome]) ∧ Below w.heap.size w w'

/-- How it is found out whether a sector is a head. -/
theorem head_looks {n p : Nat} {s : ByteArray} (hn : n ≤ 1000) (hs : s.size = 64) {h x u : Int} (he : tellN s.data.toList = (h, x, u)) {o : Option Told} (ho : ∀ t, o = some t ↔ IsHead n p s t) :
    ((decide (h ≤ 1) && decide (1 ≤ x) && decide (x ≤ 1099511627776) && decide (u ≤ roomN n)) = false ∧ o = none) ∨
    ∃ t, mayP n t ∧ h = t.half ∧ x = t.seals ∧ u = t.used ∧ ((t.seals % 2 ≠ p ∧ o = none) ∨ (t.seals % 2 = p ∧ s.data.toList ≠ headL t ∧ o = none) ∨ (t.seals % 2 = p ∧ s.data.toList = headL t ∧ o = some t)) := by
  have hnone : (∀ t, ¬ IsHead n p s t) → o = none := fun h => by
    cases o with
    | none => rfl
    | some t => exact absurd ((ho t).1 rfl) (h t)
  have htell : ∀ t, IsHead n p s t → h = t.half ∧ x = t.seals ∧ u = t.used := fun t ht => by
    have := tell_head hn ht.1
    rw [← headB_list, ← ht.2.2, he] at this
    simpa using this
  have h0 : 0 ≤ h := by
    have := congrArg Prod.fst he
    simp only [tellN] at this
    omega
  have u0 : 0 ≤ u := by
    have := congrArg (fun q => q.2.2) he
    simp only [tellN] at this
    have hl := num_lt (cut s.data.toList 14 4)
    rw [cut_len (by rw [Go.Proofs.YtlpkalfbcphkmaaGreat.Frame.size_list]; omega)] at hl
    unfold wrap64 at this
    omega
  by_cases hm : h ≤ 1 ∧ 1 ≤ x ∧ x ≤ 1099511627776 ∧ u ≤ roomN n
  · right
    obtain ⟨t, e1, e2, e3⟩ : ∃ t : Told, h = t.half ∧ x = t.seals ∧ u = t.used := ⟨⟨h.toNat, x.toNat, u.toNat⟩, by simp; omega, by simp; omega, by simp; omega⟩
    have hmay : mayP n t := ⟨by omega, by omega, by omega, by omega⟩
    have huni : ∀ t', IsHead n p s t' → t' = t := fun t' ht' => by
      obtain ⟨g1, g2, g3⟩ := htell t' ht'
      cases t; cases t'
      simp only [Told.mk.injEq]
      simp only at *
      omega
    refine ⟨t, hmay, e1, e2, e3, ?_⟩
    by_cases hp : t.seals % 2 = p
    · right
      by_cases hl : s.data.toList = headL t
      · right
        exact ⟨hp, hl, (ho t).2 ⟨hmay, hp, same_bytes (by rw [hl, headB_list])⟩⟩
      · left
        refine ⟨hp, hl, hnone fun t' ht' => hl ?_⟩
        have := huni t' ht'
        subst this
        rw [ht'.2.2, headB_list]
    · left
      refine ⟨hp, hnone fun t' ht' => hp ?_⟩
      have := huni t' ht'
      subst this
      exact ht'.2.1
  · left
    refine ⟨?_, hnone fun t' ht' => hm ?_⟩
    · rw [Bool.eq_false_iff]
      intro hc
      simp only [Bool.and_eq_true, decide_eq_true_eq] at hc
      exact hm ⟨hc.1.1.1, hc.1.1.2, hc.1.2, hc.2⟩
    · obtain ⟨g1, g2, g3⟩ := htell t' ht'
      obtain ⟨m1, m2, m3, m4⟩ := ht'.1
      exact ⟨by omega, by omega, by omega, by omega⟩
end Go.Proofs.YtlpkalfbcphkmaaGreat.Disk.Jn

/-
  Contract of headAt (package journal).
-/
namespace Go.Proofs.YtlpkalfbcphkmaaGreat.Disk.Jn
open Go.ChangeShapes Go.WideShapes Go.ChangeAt Go.RowKit Go.Lib

/-- headAt's blocks: the disk, the result, the array. -/
def HAt (w : World) (vS vW : Value) (l : List UInt8) (W : World) : Prop := Below w.heap.size w W ∧ Box w.heap.size [vS, vW] W ∧ Box (w.heap.size + 1) [.int .i64 0, .int .i64 0, .int .i64 0] W ∧ Row (w.heap.size + 1 + 1) l W
theorem HAt.made (w : World) (vS vW : Value) (l : List UInt8) : HAt w vS vW l (((w.alloc (.cells #[vS, vW] 25)).alloc (.cells #[.int .i64 0, .int .i64 0, .int .i64 0] 63)).alloc (.cells (ar l) 76)) := by
  have h1 := Box.made (w.alloc (.cells #[vS, vW] 25)) [.int .i64 0, .int .i64 0, .int .i64 0] 63
  have h2 := Row.made ((w.alloc (.cells #[vS, vW] 25)).alloc (.cells #[.int .i64 0, .int .i64 0, .int .i64 0] 63)) l
  simp only [World.size_alloc] at h1 h2
  exact ⟨below_trans (below_trans (al _ _) (al _ _)) (al _ _), ((Box.made w [vS, vW] 25).below (al _ _)).below (al _ _), h1.below (al _ _), h2⟩
theorem HAt.below {w W W' : World} {vS vW : Value} {l : List UInt8} (h : HAt w vS vW l W) (hb : Below W.heap.size W W') : HAt w vS vW l W' :=
  ⟨below_trans h.1 hb, h.2.1.below hb, h.2.2.1.below hb, h.2.2.2.below hb⟩
theorem HAt.next {w W W' : World} {vS vW : Value} {l l' : List UInt8} (h : HAt w vS vW l W) (hr : Row (w.heap.size + 1 + 1) l' W') (hb : Below (w.heap.size + 1 + 1) W W') : HAt w vS vW l' W' :=
  ⟨h.1.trans (hb.mono (by omega)), h.2.1.keep hb (by omega), h.2.2.1.keep hb (by omega), hr⟩
theorem spl_all {l0 l : List UInt8} (h : l.length = l0.length) : spl l0 0 l = l := by
  unfold spl
  rw [List.take_zero, List.nil_append, Nat.zero_add, List.drop_of_length_le (by omega), List.append_nil]

section
variable {P : Program} {md : Region.Mode} {ops : Array Oper} {Q : Exit → Act → World → Prop} {S : World → Prop}
/-- What is asked behind a panic does not hang on the frame. -/
def Calm (Q : Exit → Act → World → Prop) : Prop := ∀ c a o v w, Q (.panic c) (Act.put a o v) w → Q (.panic c) a w
theorem calm_then {K : Act → World → Prop} (h : Calm Q) : Calm (Exit.then K Q) := h
theorem calm_body {fn : Func} {post : Ending → World → Prop} : Calm (bodyPost P fn post) := fun _ a o _ _ h => by cases o <;> exact h
/-- An operation whose guard says no is passed over. -/
theorem skipH (i d : Nat) {oi : Oper} {fuel : Nat} {listed : Array Bool} {a : Act} {w : World} (hQ : Calm Q) (hi : ops[i]? = some oi) (hd : oi.dst = some d) (hs : Region.noSelect ops = true) (hf : Region.free md ops listed i = true) (hr : (Region.ready md ops listed).contains i = true)
    (hw : Region.wanted oi (yielded ops a.tmps) = false) (hS : S w)
    (h : wpAnyH P md ops Q S fuel (listed.setIfInBounds i true) (a.put (some d) undef) w) : wpAnyH P md ops Q S (fuel + 1) listed a w :=
  wpAnyH_take hi hs hf hr (fun c a w' => hQ c a _ _ w') (.inr ⟨hw, rfl⟩) hS (by rw [hd]; exact h)
theorem takeH (i d : Nat) (v : Value) {oi : Oper} {fuel : Nat} {listed : Array Bool} {a : Act} {w : World} (hQ : Calm Q) (hi : ops[i]? = some oi) (hd : oi.dst = some d) (hs : Region.noSelect ops = true) (hf : Region.free md ops listed i = true) (hr : (Region.ready md ops listed).contains i = true)
    (hw : Region.wanted oi (yielded ops a.tmps) = true) (hy : ∀ w, S w → (execOp a.eval oi).run P w = .ok (.value v) w) (hS : S w)
    (h : wpAnyH P md ops Q S fuel (listed.setIfInBounds i true) (a.put (some d) v) w) : wpAnyH P md ops Q S (fuel + 1) listed a w :=
  wpAnyH_take hi hs hf hr (fun c a w' => hQ c a _ _ w') (.inl ⟨hw, hy⟩) hS (by rw [hd]; exact h)
end
/-- The cells that headAt's test reads. -/
theorem at_facts {w W W' : World} {vS vW : Value} {l : List UInt8} {tb : Nat} {h x u : Int} {cs : List Value} (hA : HAt w vS vW l W) (hT : Box tb [.int .i64 h, .int .i64 x, .int .i64 u] W) (hcs : cs.toArray = ar l) (hb : Below W.heap.size W W') :
    w.heap.size < W'.heap.size ∧ W'.rangeAt (w.heap.size + 1 + 1) 0 cs ∧ W'.cell? ⟨tb, 0, none⟩ = some (.int .i64 h) ∧ W'.cell? ⟨tb, 1, none⟩ = some (.int .i64 x) ∧ W'.cell? ⟨tb, 2, none⟩ = some (.int .i64 u) ∧ W'.cell? ⟨w.heap.size, 0, none⟩ = some vS ∧ W'.cell? ⟨w.heap.size, 1, none⟩ = some vW := by
  have hA' := hA.below hb
  obtain ⟨t0, t1, t2⟩ := (hT.below hb).c3
  obtain ⟨d0, d1⟩ := hA'.2.1.c2
  refine ⟨hA'.2.1.1, fun j v hj => ?_, t0, t1, t2, d0, d1⟩
  rw [Nat.zero_add, cell_of_row _ _ _ _ _ _ hA'.2.2.2, ← hcs]
  simpa using hj
theorem zero_end {w W : World} {vS vW : Value} {l : List UInt8} (h : HAt w vS vW l W) (a b c : Value) : Box (w.heap.size + 1) [a, b, c] (((W.setCell ⟨w.heap.size + 1, 0, none⟩ a).setCell ⟨w.heap.size + 1, 1, none⟩ b).setCell ⟨w.heap.size + 1, 2, none⟩ c) ∧ Below w.heap.size w (((W.setCell ⟨w.heap.size + 1, 0, none⟩ a).setCell ⟨w.heap.size + 1, 1, none⟩ b).setCell ⟨w.heap.size + 1, 2, none⟩ c) :=
  ⟨h.2.2.1.st3 a b c, below_st3 h.1 (by omega) a b c⟩

set_option maxHeartbeats 2000000 in
set_option maxRecDepth 100000 in
theorem headAt_any {vS vW : Value} {ls : List ByteArray} {w : World} (hS : SRow w vS ls) (h8 : 8 ≤ ls.length) (hn : ls.length ≤ 1000) {p : Nat} (hp : p < 2) (h64 : (ls.getD p ⟨#[]⟩).size = 64) {o : Option Told} (ho : ∀ t, o = some t ↔ IsHead ls.length p (ls.getD p ⟨#[]⟩) t) :
    Calls Tryz.prog 64 #[.agg #[vS, vW], .int .i64 p] w (HeadE o w) := by
  obtain ⟨aS, cap, rfl⟩ := hS.slice
  obtain ⟨g, rfl, hc, hg, hce⟩ := hS.at (q := p) (by omega)
  have hl := getD_eq (l := ls) (a := p) (by omega)
  rw [hl] at h64 ho
  generalize ls[p] = s at hce h64 ho
  obtain ⟨h, x, u, he⟩ : ∃ h x u, tellN s.data.toList = (h, x, u) := ⟨_, _, _, rfl⟩
  have HLK := Lib.hid (head_looks hn h64 he ho)
  have hsl : s.data.toList.length = 64 := by rw [Go.Proofs.YtlpkalfbcphkmaaGreat.Frame.size_list]; exact h64
  have HT := Lib.hid (fun W => he ▸ tells_any s.data.toList hsl W)
  have HM := Lib.hid (fun W => mayBe_any (some ⟨g, 0, none⟩) ls.length cap vW h x u W (by omega) hn)
  obtain ⟨hz, hi⟩ := zero_of_info infoHead
  have HI := Lib.hid hi
  have HA := Lib.hid (HAt.made w (.slice (some ⟨g, 0, none⟩) ls.length cap) vW (List.replicate 64 0))
  have HSL := Lib.hid hsl
  clear hi hsl he ho hl hS
  go_enter Tryz.func64, Tryz.ntmps64
  go_upto_region 2 with (fail)
  rw [← ar_zero]
  clear hz
  have hgw := hg
  generalize (((w.alloc (.cells #[.slice (some ⟨g, 0, none⟩) ls.length cap, vW] 25)).alloc (.cells #[.int .i64 0, .int .i64 0, .int .i64 0] 63)).alloc (.cells (ar (List.replicate 64 0)) 76)) = W at HA ⊢
  have HAd : Hid (HAt w (.slice (some ⟨g, 0, none⟩) ls.length cap) vW (List.replicate 64 0) W.drew) := HA.out.below ((Below.refl _ _).drew)
  have hcp := run_copy_row_string (P := Tryz.prog) W.drew 41 9 3 5 (w.heap.size + 1 + 1) 0 64 64 s (ar (List.replicate 64 0)) 76 Tryz.underlying41 infoByte1 HAd.out.2.2.2 (by omega) (by rw [ar_size, List.length_replicate]; omega)
  have hr1 := HAd.out.next (HAd.out.2.2.2.copied 0 s.data.toList) (below_setRow (Below.refl _ _) (Nat.le_refl _) _)
  rw [spl_all (by rw [HSL.out]; rfl)] at hr1
  have HR1 := Lib.hid hr1
  rw [HSL.out] at HR1
  rw [h64] at hcp
  clear hr1
  change Hid (HAt w _ _ _ (W.drew.setRow (w.heap.size + 1 + 1) ((ar (List.replicate 64 0)).toList.take 0 ++ byteCells s.data.toList ++ (ar (List.replicate 64 0)).toList.drop (0 + 64)).toArray)) at HR1
  generalize (W.drew.setRow (w.heap.size + 1 + 1) ((ar (List.replicate 64 0)).toList.take 0 ++ byteCells s.data.toList ++ (ar (List.replicate 64 0)).toList.drop (0 + 64)).toArray) = W1 at hcp HR1
  obtain ⟨d0, d1⟩ := HA.out.2.1.c2
  have hce1 := (HA.out.1.cell (p := ⟨g, p, none⟩) hg).trans hce
  clear hce
  go_region
  clear hcp d0 d1 hce1 HAd HA
  have HLD : Hid (W1.heap[w.heap.size + 1 + 1]? = some (.cells (ar s.data.toList) 76 (0, 0))) := HR1.out.2.2.2
  have HL : Hid (Option.map (fun x => x.size) (Tryz.prog.info? 76) = some (ar s.data.toList).size) := by unfold Hid; rw [ar_size, HSL.out]; exact HI.out
  generalize hA : ar s.data.toList = A at HLD HL HT
  have HAR := Lib.hid hA
  clear hA
  go_upto_region 4 with (first
    | (refine wpList_load_row rfl 76 _ rfl (w.heap.size + 1 + 1) rfl 76 A (0, 0) _ HLD.out Tryz.underlying76 rfl HL.out ?_)
    | (go_at_call 86; (with_reducible refine (HT.out _).mono ?_); rintro e X ⟨rfl, hx⟩; have HX := Lib.hid (HR1.out.below hx); clear hx))
  have hT := Box.made X [.int .i64 h, .int .i64 x, .int .i64 u] 63
  have HX2 := Lib.hid (HX.out.below (al X (.cells #[.int .i64 h, .int .i64 x, .int .i64 u] 63)))
  obtain ⟨cs, hcs⟩ : ∃ cs : List Value, cs.toArray = A := ⟨A.toList, by simp⟩
  have hcs' := hcs.trans HAR.out.symm
  generalize hX2 : X.alloc (.cells #[.int .i64 h, .int .i64 x, .int .i64 u] 63) = X2 at HX2 hT ⊢
  clear hX2
  have HSF := Lib.hid (fun W' (hb : Below X2.heap.size X2 W') => at_facts HX2.out hT hcs' hb)
  have hi : Option.map (fun x => x.size) (Tryz.prog.info? 76) = some cs.length := by rw [HL.out, ← hcs]; simp
  have hu := Tryz.underlying76
  have HIH := Lib.hid hi
  have HBD := Lib.hid ((Below.refl X2.heap.size X2).drew)
  obtain ⟨d0, d1⟩ := HX2.out.2.1.c2
  obtain ⟨t0, t1, t2⟩ := hT.c3
  generalize X.heap.size = tb at hT HSF t0 t1 t2 ⊢
  have HCS := Lib.hid hcs'
  clear hT HX HR1 hi hu hcs hcs'
  rcases HLK.out with ⟨hb, rfl⟩ | ⟨t, ht, rfl, rfl, rfl, hcase⟩
  · rw [hb] at HM
    clear HLK hb
    refine wp_region_held_drew (S := fun w' => w'.cell? ⟨tb, 0, none⟩ = some (.int .i64 h) ∧ w'.cell? ⟨tb, 1, none⟩ = some (.int .i64 x) ∧ w'.cell? ⟨tb, 2, none⟩ = some (.int .i64 u) ∧ w'.cell? ⟨w.heap.size, 0, none⟩ = some (.slice (some ⟨g, 0, none⟩) ls.length cap) ∧ w'.cell? ⟨w.heap.size, 1, none⟩ = some vW) (by kernel_rfl) ⟨t0, t1, t2, d0, d1⟩ (fun hHeld => ?_)
    refine takeH 0 17 (.agg #[.int .i64 h, .int .i64 x, .int .i64 u]) (calm_then (calm_then calm_body)) rfl rfl (by kernel_rfl) (by kernel_rfl) (by kernel_rfl) (by rfl) (fun w hSw => by (try dsimp only at hSw); go_simp) (by assumption) ?_
    try simp only [Act.put, List.setIfInBounds_toArray, List.set_cons_zero, List.set_cons_succ]
    refine takeH 1 18 (.agg #[.slice (some ⟨g, 0, none⟩) ls.length cap, vW]) (calm_then (calm_then calm_body)) rfl rfl (by kernel_rfl) (by kernel_rfl) (by kernel_rfl) (by rfl) (fun w hSw => by (try dsimp only at hSw); go_simp) (by assumption) ?_
    try simp only [Act.put, List.setIfInBounds_toArray, List.set_cons_zero, List.set_cons_succ]
    refine wpAnyH_ready (rs := [2]) (by kernel_rfl) (by simp) (AllReadyH.cons rfl (fun K hK => ?_) AllReadyH.nil)
    go_simp
    go_at_call 87
    refine (HM.out _).mono ?_
    rintro e Y ⟨rfl, hy⟩
    have HBY := Lib.hid (below_trans HBD.out hy)
    clear hy
    go_simp
    refine hK.out _ _ ?_ (fun hHeld => ?_)
    · exact (HSF.out _ HBY.out).2.2
    clear hK
    try simp only [Act.put, List.setIfInBounds_toArray, List.set_cons_zero, List.set_cons_succ]
    refine takeH 3 20 (.bool true) (calm_then (calm_then calm_body)) rfl rfl (by kernel_rfl) (by kernel_rfl) (by kernel_rfl) (by rfl) (fun w hSw => by (try dsimp only at hSw); go_simp) (by assumption) ?_
    try simp only [Act.put, List.setIfInBounds_toArray, List.set_cons_zero, List.set_cons_succ]
    refine takeH 4 21 (.bool true) (calm_then (calm_then calm_body)) rfl rfl (by kernel_rfl) (by kernel_rfl) (by kernel_rfl) (by rfl) (fun w hSw => by (try dsimp only at hSw); go_simp) (by assumption) ?_
    try simp only [Act.put, List.setIfInBounds_toArray, List.set_cons_zero, List.set_cons_succ]
    refine skipH 5 22 (calm_then (calm_then calm_body)) rfl rfl (by kernel_rfl) (by kernel_rfl) (by kernel_rfl) (by rfl) (by assumption) ?_
    try simp only [Act.put, List.setIfInBounds_toArray, List.set_cons_zero, List.set_cons_succ]
    refine skipH 7 24 (calm_then (calm_then calm_body)) rfl rfl (by kernel_rfl) (by kernel_rfl) (by kernel_rfl) (by rfl) (by assumption) ?_
    try simp only [Act.put, List.setIfInBounds_toArray, List.set_cons_zero, List.set_cons_succ]
    refine skipH 6 23 (calm_then (calm_then calm_body)) rfl rfl (by kernel_rfl) (by kernel_rfl) (by kernel_rfl) (by rfl) (by assumption) ?_
    try simp only [Act.put, List.setIfInBounds_toArray, List.set_cons_zero, List.set_cons_succ]
    refine skipH 8 25 (calm_then (calm_then calm_body)) rfl rfl (by kernel_rfl) (by kernel_rfl) (by kernel_rfl) (by rfl) (by assumption) ?_
    try simp only [Act.put, List.setIfInBounds_toArray, List.set_cons_zero, List.set_cons_succ]
    refine takeH 9 26 (.bool true) (calm_then (calm_then calm_body)) rfl rfl (by kernel_rfl) (by kernel_rfl) (by kernel_rfl) (by rfl) (fun w hSw => by (try dsimp only at hSw); go_simp) (by assumption) ?_
    try simp only [Act.put, List.setIfInBounds_toArray, List.set_cons_zero, List.set_cons_succ]
    refine takeH 10 27 (.bool true) (calm_then (calm_then calm_body)) rfl rfl (by kernel_rfl) (by kernel_rfl) (by kernel_rfl) (by rfl) (fun w hSw => by (try dsimp only at hSw); go_simp) (by assumption) ?_
    try simp only [Act.put, List.setIfInBounds_toArray, List.set_cons_zero, List.set_cons_succ]
    refine skipH 11 28 (calm_then (calm_then calm_body)) rfl rfl (by kernel_rfl) (by kernel_rfl) (by kernel_rfl) (by rfl) (by assumption) ?_
    try simp only [Act.put, List.setIfInBounds_toArray, List.set_cons_zero, List.set_cons_succ]
    refine skipH 12 29 (calm_then (calm_then calm_body)) rfl rfl (by kernel_rfl) (by kernel_rfl) (by kernel_rfl) (by rfl) (by assumption) ?_
    try simp only [Act.put, List.setIfInBounds_toArray, List.set_cons_zero, List.set_cons_succ]
    refine skipH 13 30 (calm_then (calm_then calm_body)) rfl rfl (by kernel_rfl) (by kernel_rfl) (by kernel_rfl) (by rfl) (by assumption) ?_
    try simp only [Act.put, List.setIfInBounds_toArray, List.set_cons_zero, List.set_cons_succ]
    refine skipH 14 31 (calm_then (calm_then calm_body)) rfl rfl (by kernel_rfl) (by kernel_rfl) (by kernel_rfl) (by rfl) (by assumption) ?_
    try simp only [Act.put, List.setIfInBounds_toArray, List.set_cons_zero, List.set_cons_succ]
    refine takeH 15 32 (.bool true) (calm_then (calm_then calm_body)) rfl rfl (by kernel_rfl) (by kernel_rfl) (by kernel_rfl) (by rfl) (fun w hSw => by (try dsimp only at hSw); go_simp) (by assumption) ?_
    try simp only [Act.put, List.setIfInBounds_toArray, List.set_cons_zero, List.set_cons_succ]
    refine wpAnyH_done (by kernel_rfl) ?_ _
    have HZ := Lib.hid (zero_end (HX2.out.below HBY.out) (.int .i64 0) (.int .i64 0) (.int .i64 0))
    obtain ⟨f0, f1, f2⟩ := (HX2.out.below HBY.out).2.2.1.f3
    obtain ⟨r0, r1, r2⟩ := (HX2.out.below HBY.out).2.2.1.c3
    clear t0 t1 t2 d0 d1
    go_wp2_with fail
    obtain ⟨z0, z1, z2⟩ := HZ.out.1.c3
    exact bodyPost_ret (v := .tuple #[.agg #[.int .i64 0, .int .i64 0, .int .i64 0], .bool false]) (by simp [results, Tryz.results64, go_sem, z0, z1, z2]) rfl ⟨rfl, HZ.out.2⟩
  have hmb : (decide ((t.half : Int) ≤ 1) && decide (1 ≤ (t.seals : Int)) && decide ((t.seals : Int) ≤ 1099511627776) && decide ((t.used : Int) ≤ roomN ls.length)) = true := by
    obtain ⟨m1, m2, m3, m4⟩ := ht
    simp only [Bool.and_eq_true, decide_eq_true_eq]
    omega
  rw [hmb] at HM
  have HP := Lib.hid (fun W => place_any t.half t.seals t.used t.seals rfl W)
  have HO := Lib.hid (fun W => headOf_any t ht.1 (by have := ht.2.2.1; omega) (by have := ht.2.2.2; unfold roomN hsN at this; omega) W)
  clear HLK hmb
  rcases hcase with ⟨hpl, rfl⟩ | hcase
  · have hpn : (((t.seals % 2 : Nat) : Int) != (p : Int)) = true := by simp; omega
    generalize t.seals % 2 = q at HP hpl hpn
    refine wp_region_held_drew (S := fun w' => w'.cell? ⟨tb, 0, none⟩ = some (.int .i64 t.half) ∧ w'.cell? ⟨tb, 1, none⟩ = some (.int .i64 t.seals) ∧ w'.cell? ⟨tb, 2, none⟩ = some (.int .i64 t.used) ∧ w'.cell? ⟨w.heap.size, 0, none⟩ = some (.slice (some ⟨g, 0, none⟩) ls.length cap) ∧ w'.cell? ⟨w.heap.size, 1, none⟩ = some vW) (by kernel_rfl) ⟨t0, t1, t2, d0, d1⟩ (fun hHeld => ?_)
    refine takeH 0 17 (.agg #[.int .i64 t.half, .int .i64 t.seals, .int .i64 t.used]) (calm_then (calm_then calm_body)) rfl rfl (by kernel_rfl) (by kernel_rfl) (by kernel_rfl) (by rfl) (fun w hSw => by (try dsimp only at hSw); go_simp) (by assumption) ?_
    try simp only [Act.put, List.setIfInBounds_toArray, List.set_cons_zero, List.set_cons_succ]
    refine takeH 1 18 (.agg #[.slice (some ⟨g, 0, none⟩) ls.length cap, vW]) (calm_then (calm_then calm_body)) rfl rfl (by kernel_rfl) (by kernel_rfl) (by kernel_rfl) (by rfl) (fun w hSw => by (try dsimp only at hSw); go_simp) (by assumption) ?_
    try simp only [Act.put, List.setIfInBounds_toArray, List.set_cons_zero, List.set_cons_succ]
    refine wpAnyH_ready (rs := [2]) (by kernel_rfl) (by simp) (AllReadyH.cons rfl (fun K hK => ?_) AllReadyH.nil)
    go_simp
    go_at_call 87
    refine (HM.out _).mono ?_
    rintro e Y ⟨rfl, hy⟩
    have HBY := Lib.hid (below_trans HBD.out hy)
    clear hy
    go_simp
    refine hK.out _ _ ?_ (fun hHeld => ?_)
    · exact (HSF.out _ HBY.out).2.2
    clear hK
    try simp only [Act.put, List.setIfInBounds_toArray, List.set_cons_zero, List.set_cons_succ]
    refine takeH 3 20 (.bool false) (calm_then (calm_then calm_body)) rfl rfl (by kernel_rfl) (by kernel_rfl) (by kernel_rfl) (by rfl) (fun w hSw => by (try dsimp only at hSw); go_simp) (by assumption) ?_
    try simp only [Act.put, List.setIfInBounds_toArray, List.set_cons_zero, List.set_cons_succ]
    refine takeH 4 21 (.bool false) (calm_then (calm_then calm_body)) rfl rfl (by kernel_rfl) (by kernel_rfl) (by kernel_rfl) (by rfl) (fun w hSw => by (try dsimp only at hSw); go_simp) (by assumption) ?_
    try simp only [Act.put, List.setIfInBounds_toArray, List.set_cons_zero, List.set_cons_succ]
    refine takeH 5 22 (.agg #[.int .i64 t.half, .int .i64 t.seals, .int .i64 t.used]) (calm_then (calm_then calm_body)) rfl rfl (by kernel_rfl) (by kernel_rfl) (by kernel_rfl) (by rfl) (fun w hSw => by (try dsimp only at hSw); go_simp) (by assumption) ?_
    try simp only [Act.put, List.setIfInBounds_toArray, List.set_cons_zero, List.set_cons_succ]
    refine takeH 7 24 (.int .i64 p) (calm_then (calm_then calm_body)) rfl rfl (by kernel_rfl) (by kernel_rfl) (by kernel_rfl) (by rfl) (fun w hSw => by (try dsimp only at hSw); go_simp) (by assumption) ?_
    try simp only [Act.put, List.setIfInBounds_toArray, List.set_cons_zero, List.set_cons_succ]
    refine wpAnyH_ready (rs := [6]) (by kernel_rfl) (by simp) (AllReadyH.cons rfl (fun K hK => ?_) AllReadyH.nil)
    go_simp
    go_at_call 45
    refine (HP.out _).mono ?_
    rintro e Z ⟨rfl, hy⟩
    have HBZ := Lib.hid (below_trans HBY.out hy)
    clear hy
    go_simp
    refine hK.out _ _ ?_ (fun hHeld => ?_)
    · exact (HSF.out _ HBZ.out).2.2
    clear hK
    try simp only [Act.put, List.setIfInBounds_toArray, List.set_cons_zero, List.set_cons_succ]
    refine takeH 8 25 (.bool true) (calm_then (calm_then calm_body)) rfl rfl (by kernel_rfl) (by kernel_rfl) (by kernel_rfl) (by rfl) (fun w hSw => by (try dsimp only at hSw); go_simp) (by assumption) ?_
    try simp only [Act.put, List.setIfInBounds_toArray, List.set_cons_zero, List.set_cons_succ]
    refine takeH 9 26 (.bool true) (calm_then (calm_then calm_body)) rfl rfl (by kernel_rfl) (by kernel_rfl) (by kernel_rfl) (by rfl) (fun w hSw => by (try dsimp only at hSw); go_simp) (by assumption) ?_
    try simp only [Act.put, List.setIfInBounds_toArray, List.set_cons_zero, List.set_cons_succ]
    refine takeH 10 27 (.bool true) (calm_then (calm_then calm_body)) rfl rfl (by kernel_rfl) (by kernel_rfl) (by kernel_rfl) (by rfl) (fun w hSw => by (try dsimp only at hSw); go_simp) (by assumption) ?_
    try simp only [Act.put, List.setIfInBounds_toArray, List.set_cons_zero, List.set_cons_succ]
    refine skipH 11 28 (calm_then (calm_then calm_body)) rfl rfl (by kernel_rfl) (by kernel_rfl) (by kernel_rfl) (by rfl) (by assumption) ?_
    try simp only [Act.put, List.setIfInBounds_toArray, List.set_cons_zero, List.set_cons_succ]
    refine skipH 12 29 (calm_then (calm_then calm_body)) rfl rfl (by kernel_rfl) (by kernel_rfl) (by kernel_rfl) (by rfl) (by assumption) ?_
    try simp only [Act.put, List.setIfInBounds_toArray, List.set_cons_zero, List.set_cons_succ]
    refine skipH 13 30 (calm_then (calm_then calm_body)) rfl rfl (by kernel_rfl) (by kernel_rfl) (by kernel_rfl) (by rfl) (by assumption) ?_
    try simp only [Act.put, List.setIfInBounds_toArray, List.set_cons_zero, List.set_cons_succ]
    refine skipH 14 31 (calm_then (calm_then calm_body)) rfl rfl (by kernel_rfl) (by kernel_rfl) (by kernel_rfl) (by rfl) (by assumption) ?_
    try simp only [Act.put, List.setIfInBounds_toArray, List.set_cons_zero, List.set_cons_succ]
    refine takeH 15 32 (.bool true) (calm_then (calm_then calm_body)) rfl rfl (by kernel_rfl) (by kernel_rfl) (by kernel_rfl) (by rfl) (fun w hSw => by (try dsimp only at hSw); go_simp) (by assumption) ?_
    try simp only [Act.put, List.setIfInBounds_toArray, List.set_cons_zero, List.set_cons_succ]
    refine wpAnyH_done (by kernel_rfl) ?_ _
    have HZ := Lib.hid (zero_end (HX2.out.below HBZ.out) (.int .i64 0) (.int .i64 0) (.int .i64 0))
    obtain ⟨f0, f1, f2⟩ := (HX2.out.below HBZ.out).2.2.1.f3
    obtain ⟨r0, r1, r2⟩ := (HX2.out.below HBZ.out).2.2.1.c3
    clear t0 t1 t2 d0 d1
    go_wp2_with fail
    obtain ⟨z0, z1, z2⟩ := HZ.out.1.c3
    exact bodyPost_ret (v := .tuple #[.agg #[.int .i64 0, .int .i64 0, .int .i64 0], .bool false]) (by simp [results, Tryz.results64, go_sem, z0, z1, z2]) rfl ⟨rfl, HZ.out.2⟩
  have hpl : t.seals % 2 = p := by rcases hcase with h | h <;> exact h.1
  rw [hpl] at HP
  obtain ⟨A2, hA2⟩ : ∃ A2, ar (headL t) = A2 := ⟨_, rfl⟩
  have hneq : ∀ w' : World, (binOp .neq 76 (.agg cs.toArray) (.agg A2)).run Tryz.prog w' = .ok (.bool (!decide (s.data.toList = headL t))) w' := fun w' => by
    rw [HCS.out, ← hA2]
    exact run_neq_head HSL.out (headL_len t) w'
  have hgd := guardHead
  unfold HeadB at HO
  rw [hA2] at HO
  have hi := HIH.out
  have hu := Tryz.underlying76
  clear hA2
  rcases hcase with ⟨_, hne, rfl⟩ | ⟨_, he, rfl⟩
  · rw [decide_eq_false hne] at hneq
    go_region_held3 (fun w' => w'.rangeAt (w.heap.size + 1 + 1) 0 cs ∧ w'.cell? ⟨tb, 0, none⟩ = some (.int .i64 t.half) ∧ w'.cell? ⟨tb, 1, none⟩ = some (.int .i64 t.seals) ∧ w'.cell? ⟨tb, 2, none⟩ = some (.int .i64 t.used) ∧ w'.cell? ⟨w.heap.size, 0, none⟩ = some (.slice (some ⟨g, 0, none⟩) ls.length cap) ∧ w'.cell? ⟨w.heap.size, 1, none⟩ = some vW)
      (first | exact (HSF.out _ HBD.out).2 | exact (HSF.out _ HBY.out).2 | exact (HSF.out _ HBZ.out).2 | exact (HSF.out _ HBV.out).2 | fail)
      (first
        | (go_at_call 87; (with_reducible refine (HM.out _).mono ?_); rintro e Y ⟨rfl, hy⟩; have HBY := Lib.hid (below_trans HBD.out hy); clear hy)
        | (go_at_call 45; (with_reducible refine (HP.out _).mono ?_); rintro e Z ⟨rfl, hy⟩; have HBZ := Lib.hid (below_trans HBY.out hy); clear hy)
        | (go_at_call 43; (with_reducible refine (HO.out _).mono ?_); rintro e V ⟨rfl, hy⟩; have HBV := Lib.hid (below_trans HBZ.out hy); clear hy)
        | fail)
    have HZ := Lib.hid (zero_end (HX2.out.below HBV.out) (.int .i64 0) (.int .i64 0) (.int .i64 0))
    obtain ⟨f0, f1, f2⟩ := (HX2.out.below HBV.out).2.2.1.f3
    obtain ⟨r0, r1, r2⟩ := (HX2.out.below HBV.out).2.2.1.c3
    clear t0 t1 t2 d0 d1 hneq
    go_wp2_with fail
    obtain ⟨z0, z1, z2⟩ := HZ.out.1.c3
    exact bodyPost_ret (v := .tuple #[.agg #[.int .i64 0, .int .i64 0, .int .i64 0], .bool false]) (by simp [results, Tryz.results64, go_sem, z0, z1, z2]) rfl ⟨rfl, HZ.out.2⟩
  · rw [decide_eq_true he] at hneq
    go_region_held3 (fun w' => w'.rangeAt (w.heap.size + 1 + 1) 0 cs ∧ w'.cell? ⟨tb, 0, none⟩ = some (.int .i64 t.half) ∧ w'.cell? ⟨tb, 1, none⟩ = some (.int .i64 t.seals) ∧ w'.cell? ⟨tb, 2, none⟩ = some (.int .i64 t.used) ∧ w'.cell? ⟨w.heap.size, 0, none⟩ = some (.slice (some ⟨g, 0, none⟩) ls.length cap) ∧ w'.cell? ⟨w.heap.size, 1, none⟩ = some vW)
      (first | exact (HSF.out _ HBD.out).2 | exact (HSF.out _ HBY.out).2 | exact (HSF.out _ HBZ.out).2 | exact (HSF.out _ HBV.out).2 | fail)
      (first
        | (go_at_call 87; (with_reducible refine (HM.out _).mono ?_); rintro e Y ⟨rfl, hy⟩; have HBY := Lib.hid (below_trans HBD.out hy); clear hy)
        | (go_at_call 45; (with_reducible refine (HP.out _).mono ?_); rintro e Z ⟨rfl, hy⟩; have HBZ := Lib.hid (below_trans HBY.out hy); clear hy)
        | (go_at_call 43; (with_reducible refine (HO.out _).mono ?_); rintro e V ⟨rfl, hy⟩; have HBV := Lib.hid (below_trans HBZ.out hy); clear hy)
        | fail)
    have HZ := Lib.hid (zero_end (HX2.out.below HBV.out) (.int .i64 t.half) (.int .i64 t.seals) (.int .i64 t.used))
    obtain ⟨f0, f1, f2⟩ := (HX2.out.below HBV.out).2.2.1.f3
    obtain ⟨r0, r1, r2⟩ := (HX2.out.below HBV.out).2.2.1.c3
    clear t0 t1 t2 d0 d1 hneq
    obtain ⟨_, _, t0, t1, t2, _, _⟩ := HSF.out _ HBV.out
    go_wp2_with fail
    obtain ⟨z0, z1, z2⟩ := HZ.out.1.c3
    exact bodyPost_ret (v := .tuple #[.agg #[.int .i64 t.half, .int .i64 t.seals, .int .i64 t.used], .bool true]) (by simp [results, Tryz.results64, go_sem, z0, z1, z2]) rfl ⟨rfl, HZ.out.2⟩
end Go.Proofs.YtlpkalfbcphkmaaGreat.Disk.Jn

/-
  Contract of newest (package journal): what the head of more seals tells.
-/
namespace Go.Proofs.YtlpkalfbcphkmaaGreat.Disk.Jn
open Go.ChangeShapes Go.WideShapes Go.ChangeAt Go.RowKit Go.Lib

def sealsO : Option Told → Nat
  | some t => t.seals
  | none => 0
def pickO (l h : Option Told) : Option Told := match h with
  | some t => if sealsO l < t.seals then some t else l
  | none => l
def tcells : Option Told → List Value
  | some t => [.int .i64 t.half, .int .i64 t.seals, .int .i64 t.used]
  | none => [.int .i64 0, .int .i64 0, .int .i64 0]
theorem tcells_eq (o : Option Told) : ∃ h u : Nat, tcells o = [.int .i64 h, .int .i64 (sealsO o : Nat), .int .i64 u] ∧ tv o = .agg #[.int .i64 h, .int .i64 (sealsO o : Nat), .int .i64 u] := by
  cases o with
  | none => exact ⟨0, 0, rfl, rfl⟩
  | some t => exact ⟨t.half, t.used, rfl, rfl⟩
theorem head_some (n p : Nat) (s : ByteArray) (hn : n ≤ 1000) : ∃ o : Option Told, ∀ t, o = some t ↔ IsHead n p s t := by
  by_cases h : ∃ t, IsHead n p s t
  · obtain ⟨t, ht⟩ := h
    exact ⟨some t, fun t' => ⟨fun e => by cases e; exact ht, fun h' => by rw [isHead_det hn ht h']⟩⟩
  · exact ⟨none, fun t => ⟨(fun e => by cases e), fun ht => absurd ⟨t, ht⟩ h⟩⟩
theorem newest_of {ls : List ByteArray} {t : Told} {p : Nat} (hp : IsHead ls.length p (ls.getD p ⟨#[]⟩) t) (h : ∀ q, q < 2 → ∀ t', IsHead ls.length q (ls.getD q ⟨#[]⟩) t' → t'.seals ≤ t.seals) : Newest ls t := by
  have e := hp.2.1
  subst e
  exact ⟨hp, h⟩
theorem newest_pick {ls : List ByteArray} {a b : Option Told} (ha : ∀ t, a = some t ↔ IsHead ls.length 0 (ls.getD 0 ⟨#[]⟩) t) (hb : ∀ t, b = some t ↔ IsHead ls.length 1 (ls.getD 1 ⟨#[]⟩) t) {o : Option Told} (ho : ∀ t, o = some t ↔ Newest ls t) :
    o = pickO (pickO none a) b := by
  have two : ∀ t, Newest ls t → o = some t := fun t h => (ho t).2 h
  have all : ∀ n : Nat, (∀ t, a = some t → t.seals ≤ n) → (∀ t, b = some t → t.seals ≤ n) → ∀ q, q < 2 → ∀ t', IsHead ls.length q (ls.getD q ⟨#[]⟩) t' → t'.seals ≤ n := by
    intro n h0 h1 q hq t' ht
    match q, hq with
    | 0, _ => exact h0 _ ((ha _).2 ht)
    | 1, _ => exact h1 _ ((hb _).2 ht)
  have pos : ∀ {p t}, IsHead ls.length p (ls.getD p ⟨#[]⟩) t → 0 < t.seals := fun h => h.1.2.1
  cases a with
  | none =>
    cases b with
    | none =>
      cases o with
      | none => rfl
      | some t =>
        exfalso
        have h := (ho t).1 rfl
        have hq := Nat.mod_lt t.seals (by omega : 0 < 2)
        have h1 := h.1
        generalize t.seals % 2 = q at hq h1
        match q, hq with
        | 0, _ => exact absurd ((ha t).2 h1) (by simp)
        | 1, _ => exact absurd ((hb t).2 h1) (by simp)
    | some tb =>
      have h := (hb tb).1 rfl
      have hp := pos h
      rw [two tb (newest_of h (all _ (fun t e => by cases e) (fun t e => by cases e; exact Nat.le_refl _)))]
      simp [pickO, sealsO, hp]
  | some ta =>
    have h0 := (ha ta).1 rfl
    have hp0 := pos h0
    cases b with
    | none =>
      rw [two ta (newest_of h0 (all _ (fun t e => by cases e; exact Nat.le_refl _) (fun t e => by cases e)))]
      simp [pickO, sealsO, hp0]
    | some tb =>
      have h1 := (hb tb).1 rfl
      by_cases c : ta.seals < tb.seals
      · rw [two tb (newest_of h1 (all _ (fun t e => by cases e; omega) (fun t e => by cases e; exact Nat.le_refl _)))]
        simp [pickO, sealsO, hp0, c]
      · rw [two ta (newest_of h0 (all _ (fun t e => by cases e; exact Nat.le_refl _) (fun t e => by cases e; omega)))]
        simp [pickO, sealsO, hp0, c]

/-- newest's blocks at the head of its loop. -/
def NSt (w : World) (vS vW : Value) (l : Option Told) (W : World) : Prop := Below w.heap.size w W ∧ Box w.heap.size [vS, vW] W ∧ Box (w.heap.size + 1) [.int .i64 0, .int .i64 0, .int .i64 0] W ∧ Box (w.heap.size + 1 + 1) (tcells l) W
theorem NSt.made (w : World) (vS vW : Value) : NSt w vS vW none (((w.alloc (.cells #[vS, vW] 25)).alloc (.cells #[.int .i64 0, .int .i64 0, .int .i64 0] 63)).alloc (.cells #[.int .i64 0, .int .i64 0, .int .i64 0] 63)) := by
  have h1 := Box.made (w.alloc (.cells #[vS, vW] 25)) [.int .i64 0, .int .i64 0, .int .i64 0] 63
  have h2 := Box.made ((w.alloc (.cells #[vS, vW] 25)).alloc (.cells #[.int .i64 0, .int .i64 0, .int .i64 0] 63)) [.int .i64 0, .int .i64 0, .int .i64 0] 63
  simp only [World.size_alloc] at h1 h2
  exact ⟨below_trans (below_trans (al _ _) (al _ _)) (al _ _), ((Box.made w [vS, vW] 25).below (al _ _)).below (al _ _), h1.below (al _ _), h2⟩
theorem NSt.below {w W W' : World} {vS vW : Value} {l : Option Told} (h : NSt w vS vW l W) (hb : Below W.heap.size W W') : NSt w vS vW l W' :=
  ⟨below_trans h.1 hb, h.2.1.below hb, h.2.2.1.below hb, h.2.2.2.below hb⟩
theorem NSt.put {w W : World} {vS vW : Value} {l : Option Told} (h : NSt w vS vW l W) (t : Told) : NSt w vS vW (some t) (((W.setCell ⟨w.heap.size + 1 + 1, 0, none⟩ (.int .i64 t.half)).setCell ⟨w.heap.size + 1 + 1, 1, none⟩ (.int .i64 t.seals)).setCell ⟨w.heap.size + 1 + 1, 2, none⟩ (.int .i64 t.used)) := by
  obtain ⟨h1, h2, h3, h4⟩ := h
  obtain ⟨a, b, e, _⟩ := tcells_eq l
  rw [e] at h4
  exact ⟨below_st3 h1 (by omega) _ _ _, ((h2.other (by omega) _).other (by omega) _).other (by omega) _, ((h3.other (by omega) _).other (by omega) _).other (by omega) _, h4.st3 _ _ _⟩
theorem NSt.ends {w W : World} {vS vW : Value} {l : Option Told} (h : NSt w vS vW l W) (a b c : Value) : Box (w.heap.size + 1) [a, b, c] (((W.setCell ⟨w.heap.size + 1, 0, none⟩ a).setCell ⟨w.heap.size + 1, 1, none⟩ b).setCell ⟨w.heap.size + 1, 2, none⟩ c) ∧ Below w.heap.size w (((W.setCell ⟨w.heap.size + 1, 0, none⟩ a).setCell ⟨w.heap.size + 1, 1, none⟩ b).setCell ⟨w.heap.size + 1, 2, none⟩ c) :=
  ⟨h.2.2.1.st3 a b c, below_st3 h.1 (by omega) a b c⟩
/-- What was found behind k places. -/
def lastO (a b : Option Told) : Nat → Option Told
  | 0 => none
  | 1 => pickO none a
  | _ => pickO (pickO none a) b

set_option maxHeartbeats 2000000 in
set_option maxRecDepth 100000 in
theorem newest_any {vS vW : Value} {ls : List ByteArray} {w : World} (hS : SRow w vS ls) (h8 : 8 ≤ ls.length) (hn : ls.length ≤ 1000) (h64 : Secs64 ls) {o : Option Told} (ho : ∀ t, o = some t ↔ Newest ls t) :
    Calls Tryz.prog 31 #[.agg #[vS, vW]] w (HeadE o w) := by
  obtain ⟨a, ha⟩ := head_some ls.length 0 (ls.getD 0 ⟨#[]⟩) hn
  obtain ⟨b, hb⟩ := head_some ls.length 1 (ls.getD 1 ⟨#[]⟩) hn
  have HO := Lib.hid (newest_pick ha hb ho)
  have HC0 := Lib.hid (fun W (h : Below w.heap.size w W) => headAt_any (vW := vW) (hS.below h) h8 hn (p := 0) (by omega) (secs_get h64 (by omega)) ha)
  have HC1 := Lib.hid (fun W (h : Below w.heap.size w W) => headAt_any (vW := vW) (hS.below h) h8 hn (p := 1) (by omega) (secs_get h64 (by omega)) hb)
  obtain ⟨aS, cap, rfl⟩ := hS.slice
  have HA := Lib.hid (NSt.made w (.slice aS ls.length cap) vW)
  have HPOS : Hid (decide (0 < sealsO o) = o.isSome) := by
    cases o with
    | none => rfl
    | some t => exact decide_eq_true ((ho t).1 rfl).1.1.2.1
  clear hS h64 ho ha hb
  generalize ls.length = n at *
  go_enter Tryz.func31, Tryz.ntmps31
  go_wp2
  go_loopw [8] (fun i wr => ∃ k : Nat, k ≤ 2 ∧ i = .int .i64 k ∧ NSt w (.slice aS n cap) vW (lastO a b k) wr) (fun i _ => 2 - (RowKit.intOf i).toNat)
  case atStart => exact ⟨0, Nat.zero_le _, rfl, HA.out⟩
  case round =>
    obtain ⟨k, hk, rfl, hst⟩ := hrel
    have HS := Lib.hid hst
    clear hst HA
    by_cases hlt : k < 2
    · obtain ⟨d, hd, hc⟩ : ∃ d, lastO a b (k + 1) = pickO (lastO a b k) d ∧ Hid (∀ W (h : Below w.heap.size w W), Calls Tryz.prog 64 #[.agg #[.slice aS n cap, vW], .int .i64 k] W (HeadE d W)) := by
        match k, hlt with
        | 0, _ => exact ⟨a, rfl, HC0.out⟩
        | 1, _ => exact ⟨b, rfl, HC1.out⟩
      have HD := Lib.hid hd
      clear HC0 HC1 hd HO
      generalize hL : lastO a b (k + 1) = l' at HD
      have HLL := Lib.hid hL
      clear hL
      generalize lastO a b k = l at HS HD
      obtain ⟨lh, lu, el, _⟩ := tcells_eq l
      obtain ⟨b0, b1⟩ := HS.out.2.1.c2
      go_wp2_with fail
      refine (hc.out _ HS.out.1).mono ?_
      rintro e X ⟨rfl, hx⟩
      have HX := Lib.hid (HS.out.below hx)
      clear hx b0 b1
      cases d with
      | none =>
        have HY := Lib.hid (HX.out.below (al X (.cells #[.int .i64 0, .int .i64 0, .int .i64 0] 63)))
        rw [show tv none = .agg #[.int .i64 0, .int .i64 0, .int .i64 0] from rfl, show (none : Option Told).isSome = false from rfl]
        go_wp2_with fail
        go_roundw
        case rel => exact ⟨k + 1, by omega, by go_num, by rw [HLL.out, HD.out]; exact HY.out⟩
        case measure => simp [RowKit.intOf]; omega
      | some t =>
        have HY := Lib.hid (HX.out.below (al X (.cells #[.int .i64 t.half, .int .i64 t.seals, .int .i64 t.used] 63)))
        have hb4 := HY.out.2.2.2
        rw [el] at hb4
        obtain ⟨c0, c1, c2⟩ := hb4.c3
        obtain ⟨f0, f1, f2⟩ := hb4.f3
        have HZ := Lib.hid (HY.out.put t)
        rw [show tv (some t) = .agg #[.int .i64 t.half, .int .i64 t.seals, .int .i64 t.used] from rfl, show (some t : Option Told).isSome = true from rfl]
        clear hb4
        by_cases c : sealsO l < t.seals
        · have HE : Hid (l' = some t) := by unfold Hid; rw [HD.out]; simp [pickO, c]
          generalize sealsO l = q at c c1
          go_wp2_with fail
          go_roundw
          case rel => exact ⟨k + 1, by omega, by go_num, by rw [HLL.out, HE.out]; exact HZ.out⟩
          case measure => simp [RowKit.intOf]; omega
        · have HE : Hid (l' = l) := by unfold Hid; rw [HD.out]; simp [pickO, c]
          generalize sealsO l = q at c c1
          go_wp2_with fail
          go_roundw
          case rel => exact ⟨k + 1, by omega, by go_num, by rw [HLL.out, HE.out]; exact HY.out⟩
          case measure => simp [RowKit.intOf]; omega
    · obtain rfl : k = 2 := by omega
      have HO' : Hid (o = lastO a b 2) := HO.out
      clear HC0 HC1 HO
      generalize lastO a b 2 = l at HS HO'
      obtain rfl := HO'.out
      obtain ⟨lh, lu, el, ev⟩ := tcells_eq o
      have hb4 := HS.out.2.2.2
      rw [el] at hb4
      obtain ⟨c0, c1, c2⟩ := hb4.c3
      obtain ⟨r0, r1, r2⟩ := HS.out.2.2.1.c3
      obtain ⟨f0, f1, f2⟩ := HS.out.2.2.1.f3
      have HZ := Lib.hid (HS.out.ends (.int .i64 lh) (.int .i64 (sealsO o : Nat)) (.int .i64 lu))
      have HE : Hid (HeadE o w (.returned (.tuple #[.agg #[.int .i64 lh, .int .i64 (sealsO o : Nat), .int .i64 lu], .bool (decide (0 < sealsO o))])) (((((wr.setCell ⟨w.heap.size + 1, 0, none⟩ (.int .i64 lh)).setCell ⟨w.heap.size + 1, 1, none⟩ (.int .i64 (sealsO o : Nat))).setCell ⟨w.heap.size + 1, 2, none⟩ (.int .i64 lu)).drew))) := by
        refine ⟨?_, HZ.out.2.drew⟩
        rw [ev, HPOS.out]
      clear hb4 HO'
      generalize sealsO o = q at c1 HZ HE
      go_wp2_with fail
      go_region
      go_wp2_with fail
      obtain ⟨z0, z1, z2⟩ := HZ.out.1.c3
      exact bodyPost_ret (v := .tuple #[.agg #[.int .i64 lh, .int .i64 (q : Nat), .int .i64 lu], .bool (decide (0 < q))]) (by simp [results, Tryz.results31, go_sem, z0, z1, z2]) rfl HE.out
end Go.Proofs.YtlpkalfbcphkmaaGreat.Disk.Jn

/-
  Contract of the law's own alive: the check of a known text.
-/
namespace Go.Proofs.YtlpkalfbcphkmaaGreat.Crc
open Go.ChangeShapes Go.WideShapes Go.ChangeAt Go.RowKit

def BoolB (b : Bool) (w : World) (e : Ending) (w' : World) : Prop := e = .returned (.bool b) ∧ Below w.heap.size w w'

theorem below_trans {w w1 w2 : World} (h : Below w.heap.size w w1) (k : Below w1.heap.size w1 w2) : Below w.heap.size w w2 := h.trans (k.mono h.size)
end Go.Proofs.YtlpkalfbcphkmaaGreat.Crc
