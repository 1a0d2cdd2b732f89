/-
  Contracts of the reference's Get, Set and Crash: as the document says.
-/
import Derived.Test.YthoeidgekogfiaaDiskMath
import Derived.Test.YthoeidgekogfiaaDiskPut
namespace Go.Proofs.Ythoeidgekogfiaa.Disk
open Go.ChangeShapes Go.WideShapes Go.ChangeAt Go.RowKit Go.Lib

/-- What holds at the head of the reference's loop over the writes, as it reads. -/
def Reading (w : World) (i : Int) (acc : ByteArray) (ws : List (Int × ByteArray)) (vS vW : Value) (o k : Value) (wr : World) : Prop :=
  ∃ q : Nat, q ≤ ws.length ∧ k = .int .i64 q ∧ o = .string (rd i acc (ws.take q)) ∧ Box2 w.heap.size vS vW wr ∧ Below w.heap.size w wr

set_option maxHeartbeats 1000000 in
set_option maxRecDepth 100000 in
theorem refGet_any {vS vW : Value} {ls : List ByteArray} {ws : List (Int × ByteArray)} {w : World} (hS : SRow w vS ls) (hW : WRow w vW ws) (hlw : ws.length ≤ 1000) (i : Nat) (hi : i < ls.length) : Calls Try.prog 18 #[.agg #[vS, vW], .int .i64 i] w (TextB (rd i ls[i] ws) w) := by
  obtain ⟨aS, cap, rfl⟩ := hS.slice
  obtain ⟨aW, capW, rfl⟩ := hW.slice
  obtain ⟨g, rfl, hc, hg, hce⟩ := hS.at hi
  have HW := Lib.hid hW
  have hbx := Box2.made w (.slice (some ⟨g, 0, none⟩) ls.length cap) (.slice aW ws.length capW) 25
  clear hS hW
  go_enter Try.func18, Try.ntmps18
  have HBX := Lib.hid hbx
  clear hbx
  generalize hacc : ls[i] = acc at hce ⊢
  clear hacc
  go_wp2
  go_loopw [5, 16] (fun o k wr => Reading w i acc ws (.slice (some ⟨g, 0, none⟩) ls.length cap) (.slice aW ws.length capW) o k wr) (fun _ k _ => ws.length - (RowKit.intOf k).toNat)
  case atStart => exact ⟨0, Nat.zero_le _, rfl, by simp [rd], HBX.out, al _ _⟩
  case round =>
    obtain ⟨q, hq, rfl, rfl, hbx, hbe⟩ := hrel
    have HB := Lib.hid hbe
    have HBX := Lib.hid hbx
    by_cases hlt : q < ws.length
    · obtain ⟨gw, rfl, hcw, hgw, c1, c2⟩ := (HW.out.below hbe).at hlt
      have HST : Hid (rd i acc (ws.take (q + 1)) = if ws[q].1 = i then ws[q].2 else rd i acc (ws.take q)) := by
        unfold Hid
        rw [List.take_succ_eq_append_getElem hlt, rd_snoc]
      have HRS := Lib.hid (round_step (c0 := .int .i64 ws[q].1) (c1 := .string ws[q].2) (T := 43) hbx hbe (Below.refl _ _)).2
      clear hbe hbx
      generalize ws[q] = y at c1 c2 HST HRS
      obtain ⟨ya, yd⟩ := y
      dsimp only at c1 c2 HST HRS
      generalize rd i acc (ws.take q) = r at HST ⊢
      by_cases h : ya = (i : Int)
      · subst h
        go_wp2
        go_roundw
        case rel => exact ⟨q + 1, by omega, by go_num, by rw [HST.out, if_pos rfl], HRS.out⟩
        case measure => simp [RowKit.intOf]; omega
      · have HN := Lib.hid h
        go_wp2
        go_roundw
        case rel => exact ⟨q + 1, by omega, by go_num, by rw [HST.out, if_neg HN.out], HRS.out⟩
        case measure => simp [RowKit.intOf]; omega
    · obtain rfl : q = ws.length := by omega
      rw [List.take_of_length_le (Nat.le_refl _)]
      clear hbe hbx
      go_wp2
      go_ret
      exact ⟨rfl, HB.out⟩

/-- The rows of l, up to place a, and behind it. -/
theorem set_parts {l : List ByteArray} {a : Nat} (h : a < l.length) (t : ByteArray) : l.set a t = l.take a ++ [t] ++ l.drop (a + 1) := by
  rw [List.set_eq_take_append_cons_drop, if_pos h]
  simp

theorem addr_off (b off j : Nat) : (⟨b, off, none⟩ : Addr).add j = ⟨b, off + j, none⟩ := by
  unfold Addr.add
  split
  · rename_i h; subst h; rfl
  · rfl
theorem set_own {B : Nat} {v : Value} {l : List ByteArray} {a : Nat} {d : ByteArray} {w : World} (h : w.ownsRow B 9 1 v (a + 1 + (l.length - (a + 1))) (scells (l.take a) ++ Value.string d :: scells (l.drop (a + 1)))) (ha : a < l.length) : OwnS B v (l.set a d) w := by
  unfold OwnS
  have e1 : scells (l.set a d) = scells (l.take a) ++ Value.string d :: scells (l.drop (a + 1)) := by rw [set_parts ha]; simp [scells]
  have e2 : (l.set a d).length = a + 1 + (l.length - (a + 1)) := by rw [List.length_set]; omega
  rw [e1, e2]
  exact h

set_option maxHeartbeats 1000000 in
set_option maxRecDepth 100000 in
theorem refSet_any {v : Value} {l : List ByteArray} {w : World} (hS : SRow w v l) (hl : l.length ≤ 1000) (a : Nat) (ha : a < l.length) (d : ByteArray) : Calls Try.prog 35 #[v, .int .i64 a, .string d] w (NewS (l.set a d) w) := by
  obtain ⟨i0, hi, hz0, hz1, hz2⟩ := info_parts Try.infoS
  have HS := Lib.hid hS
  obtain ⟨aS, cap, rfl⟩ := hS.slice
  obtain ⟨g, rfl, hc, hg, _⟩ := hS.at ha
  clear hS
  have HB0 := Lib.hid (al w (.cells #[] 9))
  have HN0 : Hid (∀ j u, (scells (l.take a))[j]? = some u → (w.alloc (.cells #[] 9)).cell? ((⟨g, 0, none⟩ : Addr).add j) = some u) := fun j u hj => by
    have hjl : j < a := by
      have := (List.getElem?_eq_some_iff.1 hj).1
      rw [scells_len, List.length_take] at this
      omega
    refine (HS.out.below (al w _)).news j u ?_
    rw [← hj]
    simp [scells, hjl]
  go_enter Try.func35, Try.ntmps35
  go_wp2_with (at_builtin; refine wpList_append_own _ rfl _ _ 22 rfl w.heap.size 9 i0 (.string ⟨#[]⟩) 1 16 Try.underlying22 hi hz0 hz1 hz2 rfl (by decide) _ 0 [] rfl (World.ownsRow_made w #[] 0 (Nat.le_refl _) (Nat.zero_le _) rfl) ⟨g, 0, none⟩ a cap (scells (l.take a)) rfl ?c0 HN0.out (scells_one _) ?c3 ?c4 ?c5 ?_)
  case c0 => rw [scells_len, List.length_take]; omega
  case c3 => unfold maxLen; omega
  case c4 => omega
  case c5 => simp
  intro v1 w1 hown1 hgrow1 _
  have HB1 := Lib.hid (HB0.out.grown hgrow1 (by simp) (fun j hj => by cases hj; exact Nat.le_refl _) : Below w.heap.size w w1)
  have HO1 := Lib.hid hown1
  clear hown1 hgrow1 HB0 HN0
  have HN1 : Hid (∀ j u, [Value.string d][j]? = some u → (w1.alloc (.cells #[.string d] 9)).cell? ((⟨w1.heap.size, 0, none⟩ : Addr).add j) = some u) := World.news_of_block (cs := #[.string d]) (t := 9) (fr := (0, 0)) (heap_alloc_new w1 _)
  have hsz1 := HB1.out.size
  go_wp2_with (at_builtin; refine wpList_append_own _ rfl _ _ 22 rfl w.heap.size 9 i0 (.string ⟨#[]⟩) 1 16 Try.underlying22 hi hz0 hz1 hz2 rfl (by decide) v1 a (scells (l.take a)) rfl (World.ownsRow.alloc HO1.out _) ⟨w1.heap.size, 0, none⟩ 1 1 [.string d] rfl rfl HN1.out (by simp [Value.oneCell']) ?e3 ?e4 ?e5 ?_)
  case e3 => unfold maxLen; omega
  case e4 => omega
  case e5 => simp; omega
  intro v2 w2 hown2 hgrow2 _
  have HB2 := Lib.hid ((HB1.out.alloc hsz1 _).grown hgrow2 (by simp; omega) (fun j hj => (World.ownsRow.lt HO1.out j hj).1) : Below w.heap.size w w2)
  have HO2 := Lib.hid hown2
  clear hown2 hgrow2 HN1 HO1 HB1 hsz1
  by_cases hcap : a + 1 = cap
  · have HD : Hid (l.drop (a + 1) = []) := List.drop_of_length_le (by omega)
    subst hcap
    have hll : l.length = a + 1 := by omega
    go_wp2_with (at_builtin; refine wpList_append_own _ rfl _ _ 22 rfl w.heap.size 9 i0 (.string ⟨#[]⟩) 1 16 Try.underlying22 hi hz0 hz1 hz2 rfl (by decide) v2 (a + 1) (scells (l.take a) ++ [.string d]) rfl HO2.out ⟨g, 0, none⟩ 0 0 [] rfl rfl (by simp) (by simp) ?f3 ?f4 ?f5 ?_)
    case f3 => unfold maxLen; omega
    case f4 => omega
    case f5 => exact HB2.out.size
    intro v3 w3 hown3 hgrow3 _
    have HB3 := Lib.hid (HB2.out.grown hgrow3 HB2.out.size (fun j hj => (World.ownsRow.lt HO2.out j hj).1) : Below w.heap.size w w3)
    have HO3 : Hid (OwnS w.heap.size v3 (l.set a d) w3) := by
      refine set_own ?_ ha
      rw [HD.out]
      have e : a + 1 + (l.length - (a + 1)) = a + 1 := by omega
      rw [e]
      simpa [scells] using hown3
    clear hown3 hgrow3
    go_wp2
    go_ret
    exact ⟨_, rfl, HO3.out, HB3.out⟩
  · have HN2 : Hid (∀ j u, (scells (l.drop (a + 1)))[j]? = some u → w2.cell? ((⟨g, a + 1, none⟩ : Addr).add j) = some u) := fun j u hj => by
      have hjl : a + 1 + j < l.length := by
        have := (List.getElem?_eq_some_iff.1 hj).1
        rw [scells_len, List.length_drop] at this
        omega
      rw [addr_off]
      have := (HS.out.below HB2.out).news (a + 1 + j) u (by rw [← hj]; simp [scells])
      rwa [addr_at] at this
    go_wp2_with (at_builtin; refine wpList_append_own _ rfl _ _ 22 rfl w.heap.size 9 i0 (.string ⟨#[]⟩) 1 16 Try.underlying22 hi hz0 hz1 hz2 rfl (by decide) v2 (a + 1) (scells (l.take a) ++ [.string d]) rfl HO2.out ⟨g, a + 1, none⟩ (l.length - (a + 1)) (cap - (a + 1)) (scells (l.drop (a + 1))) rfl ?h0 HN2.out (scells_one _) ?h3 ?h4 ?h5 ?_)
    case h0 => rw [scells_len, List.length_drop, Nat.mul_one]
    case h3 => unfold maxLen; omega
    case h4 => omega
    case h5 => exact HB2.out.size
    intro v3 w3 hown3 hgrow3 _
    have HB3 := Lib.hid (HB2.out.grown hgrow3 HB2.out.size (fun j hj => (World.ownsRow.lt HO2.out j hj).1) : Below w.heap.size w w3)
    have HO3 := Lib.hid (set_own hown3 ha)
    clear hown3 hgrow3
    go_wp2
    go_ret
    exact ⟨_, rfl, HO3.out, HB3.out⟩
end Go.Proofs.Ythoeidgekogfiaa.Disk
