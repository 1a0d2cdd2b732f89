/-
  Contracts of package queue: the methods of a row of waits by value, whether they stand as a heap (stand, by the interface; Right).
-/
import Derived.Test.YtjmmijobdcepmaaQMayBe
namespace Go.Proofs.Ytjmmijobdcepmaa.Queue
open Go.ChangeShapes Go.WideShapes Go.ChangeAt Go.RowKit Go.Shelf Go.Sort

theorem Len_any (a : Option Addr) (n cap : Nat) (w : World) : Calls Try.prog 116 #[.slice a n cap] w fun e w' => e = .returned (.int .i64 n) ∧ w = w' := by
  go_enter Try.func116, Try.ntmps116
  go_wp2
  go_ret
  exact ⟨rfl, rfl⟩

theorem arr_get {l : List Wt} {k : Nat} (h : k < l.length) : l.toArray[k]! = l[k] := by
  rw [getElem!_pos _ k (by simpa using h)]
  simp

set_option maxRecDepth 100000 in
set_option maxHeartbeats 1000000 in
theorem LessM_any {v : Value} {l : List Wt} {w : World} (h : QRow w v l) {i j : Nat} (hi : i < l.length) (hj : j < l.length) : Calls Try.prog 117 #[v, .int .i64 i, .int .i64 j] w (BoolB (ltB l.toArray[i]! l.toArray[j]!) w) := by
  rw [arr_get hi, arr_get hj]
  obtain ⟨a, cap, rfl⟩ := h.slice
  have HL := Lib.hid (fun W => Less_any l[i] l[j] W)
  obtain ⟨b, off, rfl, hlc, hcap, hb, x0, x1, x2⟩ := h.at hi
  obtain ⟨b', off', e, _, _, _, y0, y1, y2⟩ := h.at hj
  cases e
  clear h
  generalize l[i] = x at *
  generalize l[j] = y at *
  generalize l.length = n at *
  unfold wv at HL
  have i0 : (0 : Int) ≤ (i : Int) := by omega
  have i1 : (i : Int) < (n : Int) := by omega
  have j0 : (0 : Int) ≤ (j : Int) := by omega
  have j1 : (j : Int) < (n : Int) := by omega
  have HSF : Hid (∀ w', Below w.heap.size w w' → w'.cell? ⟨b, off + i * 3, none⟩ = some (.int .i64 x.c) ∧ w'.cell? ⟨b, off + i * 3 + 1, none⟩ = some (.int .i64 x.s) ∧ w'.cell? ⟨b, off + i * 3 + 2, none⟩ = some (.int .i64 x.o) ∧ w'.cell? ⟨b, off + j * 3, none⟩ = some (.int .i64 y.c) ∧ w'.cell? ⟨b, off + j * 3 + 1, none⟩ = some (.int .i64 y.s) ∧ w'.cell? ⟨b, off + j * 3 + 2, none⟩ = some (.int .i64 y.o)) := Lib.hid (fun w' h => ⟨(h.cell (p := ⟨b, _, none⟩) hb).trans x0, (h.cell (p := ⟨b, _, none⟩) hb).trans x1, (h.cell (p := ⟨b, _, none⟩) hb).trans x2, (h.cell (p := ⟨b, _, none⟩) hb).trans y0, (h.cell (p := ⟨b, _, none⟩) hb).trans y1, (h.cell (p := ⟨b, _, none⟩) hb).trans y2⟩)
  go_enter Try.func117, Try.ntmps117
  go_upto_region 1 with (fail)
  go_region_held3 (fun w' => w'.cell? ⟨b, off + i * 3, none⟩ = some (.int .i64 x.c) ∧ w'.cell? ⟨b, off + i * 3 + 1, none⟩ = some (.int .i64 x.s) ∧ w'.cell? ⟨b, off + i * 3 + 2, none⟩ = some (.int .i64 x.o) ∧ w'.cell? ⟨b, off + j * 3, none⟩ = some (.int .i64 y.c) ∧ w'.cell? ⟨b, off + j * 3 + 1, none⟩ = some (.int .i64 y.s) ∧ w'.cell? ⟨b, off + j * 3 + 2, none⟩ = some (.int .i64 y.o)) (first | with_reducible exact HSF.out _ (dr w) | with_reducible exact HSF.out _ HZ.out | fail)
    (first
      | (go_at_call 118; (with_reducible refine (HL.out _).mono ?_); rintro e w' ⟨rfl, hz⟩; have HZ := Lib.hid (below_trans (dr w) hz); clear hz)
      | fail)
  go_wp2_with fail
  go_ret
  exact ⟨rfl, HZ.out⟩

/-- Do they stand as a heap? -/
noncomputable def hpB (l : List Wt) : Bool := @decide (Hp l.toArray) (Classical.propDecidable _)
theorem hpB_t {l : List Wt} : hpB l = true ↔ Hp l.toArray := by unfold hpB; exact @decide_eq_true_iff _ (Classical.propDecidable _)
theorem hpB_f {l : List Wt} : hpB l = false ↔ ¬ Hp l.toArray := by unfold hpB; exact @decide_eq_false_iff_not _ (Classical.propDecidable _)
/-- As far as it was looked. -/
def StR (l : List Wt) (i : Nat) (w W : World) : Prop := (∀ k, 1 ≤ k → k < i → k < l.length → ltB l.toArray[k]! l.toArray[(k - 1) / 2]! = false) ∧ Below w.heap.size w W

set_option maxRecDepth 100000 in
set_option maxHeartbeats 1000000 in
theorem stand_any {v : Value} {l : List Wt} {w : World} (h : QRow w v l) (hl : l.length ≤ 1000) : Calls Try.prog 58 #[.iface 86 v] w (BoolB (hpB l) w) := by
  obtain ⟨a, cap, rfl⟩ := h.slice
  have H := Lib.hid h
  have HLE := Lib.hid (fun W (hb : Below w.heap.size w W) i j hi hj => LessM_any (h.below hb) (i := i) (j := j) hi hj)
  have mN : ∀ w, Sem.run Try.prog (method 233 86 (.slice a l.length cap) "Len") w = .ok (116, .slice a l.length cap) w := fun _ => by kernel_rfl
  have mL : ∀ w, Sem.run Try.prog (method 233 86 (.slice a l.length cap) "Less") w = .ok (117, .slice a l.length cap) w := fun _ => by kernel_rfl
  have eN : ∀ args w, (callFunc 116 args).run Try.prog w = .ok (.enter 116 args) w := enters_of Try.func116 (by kernel_rfl) rfl
  have eL : ∀ args w, (callFunc 117 args).run Try.prog w = .ok (.enter 117 args) w := enters_of Try.func117 (by kernel_rfl) rfl
  have HT := Lib.hid (hpB_t (l := l))
  have HF := Lib.hid (hpB_f (l := l))
  clear h
  generalize hpB l = m at HT HF ⊢
  generalize hn : l.length = n at *
  have HN := Lib.hid hn
  clear hn
  go_enter Try.func58, Try.ntmps58
  go_wp2
  go_loopw [3] (fun i wr => ∃ k : Nat, 1 ≤ k ∧ k ≤ n + 1 ∧ i = .int .i64 k ∧ StR l k w wr) (fun i _ => n + 1 - (Go.RowKit.intOf i).toNat)
  case atStart => exact ⟨1, Nat.le_refl _, by omega, rfl, fun k h1 h2 => by omega, Below.refl _ _⟩
  case round =>
    obtain ⟨k, h1, hk, rfl, hr⟩ := hrel
    have HR := Lib.hid hr
    clear hr
    by_cases hlt : k < n
    · obtain ⟨p, hp⟩ : ∃ p : Nat, (k - 1) / 2 = p := ⟨_, rfl⟩
      have hpi : ((k : Int) - 1) / 2 = (p : Int) := by omega
      have hpl : p < n := by omega
      have HLK := Lib.hid (HLE.out wr HR.out.2 k p (by omega) (by omega))
      have HPP := Lib.hid hp
      clear hp
      cases hm : ltB l.toArray[k]! l.toArray[p]! with
      | true =>
        rw [hm] at HLK
        have HMF : Hid (m = false) := Lib.hid (HF.out.2 (fun hh => by have := hh k h1 (by rw [List.size_toArray, HN.out]; exact hlt); rw [HPP.out, hm] at this; cases this))
        obtain rfl := HMF.out
        clear hm HT HF HMF
        go_wp2_with (first
          | (go_at_fn 116; refine (Len_any _ _ _ _).mono ?_; rintro e w' ⟨rfl, rfl⟩)
          | (go_at_fn 117; (with_reducible refine HLK.out.mono ?_); rintro e w' ⟨rfl, hz⟩; have HZ := Lib.hid (below_trans HR.out.2 hz); clear hz))
        go_ret
        exact ⟨rfl, HZ.out⟩
      | false =>
        rw [hm] at HLK
        have HMM := Lib.hid hm
        clear hm
        go_wp2_with (first
          | (go_at_fn 116; refine (Len_any _ _ _ _).mono ?_; rintro e w' ⟨rfl, rfl⟩)
          | (go_at_fn 117; (with_reducible refine HLK.out.mono ?_); rintro e w' ⟨rfl, hz⟩; have HZ := Lib.hid (below_trans HR.out.2 hz); clear hz))
        go_roundw
        case rel => exact ⟨k + 1, by omega, by omega, by go_num, fun q q1 q2 q3 => by
          by_cases e : q = k
          · subst e; rw [HPP.out]; exact HMM.out
          · exact HR.out.1 q q1 (by omega) q3, HZ.out⟩
        case measure => simp [Go.RowKit.intOf]; omega
    · have HMT : Hid (m = true) := Lib.hid (HT.out.2 (fun q q1 q2 => HR.out.1 q q1 (by rw [List.size_toArray, HN.out] at q2; omega) (by rw [List.size_toArray] at q2; exact q2)))
      obtain rfl := HMT.out
      clear HT HF HMT
      go_wp2_with (go_at_fn 116; refine (Len_any _ _ _ _).mono ?_; rintro e w' ⟨rfl, rfl⟩)
      go_ret
      exact ⟨rfl, HR.out.2⟩

/-- They may be, and stand as a heap. -/
noncomputable def rightB (l : List Wt) : Bool := allB l && hpB l
set_option maxRecDepth 100000 in
theorem Right_any {v : Value} {l : List Wt} {w : World} (h : QRow w v l) (hl : l.length ≤ 1000) : Calls Try.prog 45 #[v] w (BoolB (rightB l) w) := by
  have HM := Lib.hid (mayBe_any h hl)
  have HS := Lib.hid (fun W (hb : Below w.heap.size w W) => stand_any (h.below hb) hl)
  obtain ⟨a, cap, rfl⟩ := h.slice
  clear h
  unfold rightB
  generalize hpB l = m2 at HS ⊢
  cases hm : allB l with
  | true =>
    rw [hm] at HM
    rw [Bool.true_and]
    clear hm
    go_enter Try.func45, Try.ntmps45
    go_wp2_with (first
      | (go_at_call 57; (with_reducible refine HM.out.mono ?_); rintro e w' ⟨rfl, hz⟩; have HZ := Lib.hid hz; clear hz)
      | (go_at_call 58; (with_reducible refine (HS.out _ HZ.out).mono ?_); rintro e w' ⟨rfl, hz⟩; have HZ2 := Lib.hid (below_trans HZ.out hz); clear hz))
    go_ret
    exact ⟨rfl, HZ2.out⟩
  | false =>
    rw [hm] at HM
    rw [Bool.false_and]
    clear hm
    go_enter Try.func45, Try.ntmps45
    go_wp2_with (go_at_call 57; (with_reducible refine HM.out.mono ?_); rintro e w' ⟨rfl, hz⟩; have HZ := Lib.hid hz; clear hz)
    go_ret
    exact ⟨rfl, HZ.out⟩
end Go.Proofs.Ytjmmijobdcepmaa.Queue
