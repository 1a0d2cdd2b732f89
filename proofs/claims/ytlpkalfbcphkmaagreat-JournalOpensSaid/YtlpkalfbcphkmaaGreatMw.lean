/-
  Joined: JRef4, JRefO, JRef9, JRefR.
-/
import Derived.Test.YtlpkalfbcphkmaaGreatMv
import Derived.Deep.RegionWith

/-
  Contract of the reference of journal: read.
-/
namespace Go.Proofs.YtlpkalfbcphkmaaGreat.Disk.Jn
open Go.ChangeShapes Go.WideShapes Go.ChangeAt Go.RowKit Go.Lib

theorem head_nums {n : Nat} {t : Told} (hn : n ≤ 1000) (h : mayP n t) : numZ (cut (headL t) 6 8) = t.seals ∧ ((headL t).getD 5 0).toNat = t.half ∧ numZ (cut (headL t) 14 4) = t.used := by
  obtain ⟨h1, h2, h3, h4⟩ := h
  have e1 : cut (headL t) 6 8 = low t.seals 8 := by
    have : (headL t).drop 6 = low t.seals 8 ++ ((low t.used 4 ++ List.replicate 14 0) ++ halfL t) := by simp [headL, halfL]
    unfold cut
    rw [this, List.take_left' (low_len _ _)]
  have e2 : cut (headL t) 14 4 = low t.used 4 := by
    have : (headL t).drop 14 = low t.used 4 ++ (List.replicate 14 0 ++ halfL t) := by
      simp only [headL, halfL, List.append_assoc, List.cons_append, List.nil_append, List.drop_succ_cons]
      rw [List.drop_left' (low_len _ _)]
    unfold cut
    rw [this, List.take_left' (low_len _ _)]
  have e3 : (headL t).getD 5 0 = UInt8.ofNat t.half := rfl
  unfold roomN hsN at h4
  rw [e1, e2, e3]
  unfold numZ
  rw [num_low, num_low]
  refine ⟨?_, by simp; omega, ?_⟩
  · rw [Nat.mod_eq_of_lt (by omega), if_neg (by omega)]
  · rw [Nat.mod_eq_of_lt (by omega), if_neg (by omega)]
theorem read_is {n p : Nat} {s : ByteArray} (hn : n ≤ 1000) {z1 z2 : Int} {hb : Nat} (e1 : numZ (cut s.data.toList 6 8) = z1) (e5 : (s.data.toList.getD 5 0).toNat = hb) (e2 : numZ (cut s.data.toList 14 4) = z2) :
    (∀ t, IsHead n p s t → 1 ≤ z1 ∧ z1 ≤ 1099511627776 ∧ z1 % 2 = p ∧ hb ≤ 1 ∧ 0 ≤ z2 ∧ z2 ≤ roomN n ∧ s = headB ⟨hb, z1.toNat, z2.toNat⟩ ∧ t = ⟨hb, z1.toNat, z2.toNat⟩) ∧
    (1 ≤ z1 → z1 ≤ 1099511627776 → z1 % 2 = p → hb ≤ 1 → 0 ≤ z2 → z2 ≤ roomN n → s = headB ⟨hb, z1.toNat, z2.toNat⟩ → IsHead n p s ⟨hb, z1.toNat, z2.toNat⟩) := by
  refine ⟨fun t ⟨hm, hp, hs⟩ => ?_, fun h1 h2 h3 h4 h5 h6 h7 => ⟨⟨h4, by show 1 ≤ z1.toNat; omega, by show z1.toNat ≤ _; omega, by show z2.toNat ≤ _; omega⟩, by show z1.toNat % 2 = p; omega, h7⟩⟩
  obtain ⟨n1, n2, n3⟩ := head_nums hn hm
  have hl : s.data.toList = headL t := by rw [hs, headB_list]
  rw [hl] at e1 e5 e2
  have a1 : z1 = t.seals := by rw [← e1, n1]
  have a2 : hb = t.half := by rw [← e5, n2]
  have a3 : z2 = t.used := by rw [← e2, n3]
  obtain ⟨m1, m2, m3, m4⟩ := hm
  have ht : t = ⟨hb, z1.toNat, z2.toNat⟩ := by cases t; simp at a1 a2 a3 ⊢; omega
  refine ⟨by omega, by omega, by omega, by omega, by omega, by omega, ?_, ht⟩
  rw [← ht]
  exact hs

section
variable {P : Program} {md : Region.Mode} {ops : Array Oper} {Q : Exit → Act → World → Prop} {S : World → Prop}
/-- An operation that yields its value is taken first; one whose guard says no is passed over. -/
theorem takeH2 (i d : Nat) (v : Value) {oi : Oper} {fuel : Nat} {listed : Array Bool} {a : Act} {w : World} (hQ : ∀ c a o v w, Q (.panic c) (Act.put a o v) w → Q (.panic c) a w) (hi : ops[i]? = some oi) (hd : oi.dst = some d) (hs : Region.noSelect ops = true) (hf : Region.free md ops listed i = true) (hr : (Region.ready md ops listed).contains i = true)
    (hw : Region.wanted oi (yielded ops a.tmps) = true) (hy : ∀ w, S w → (execOp a.eval oi).run P w = .ok (.value v) w) (hS : S w)
    (h : wpAnyH P md ops Q S fuel (listed.setIfInBounds i true) (a.put (some d) v) w) : wpAnyH P md ops Q S (fuel + 1) listed a w :=
  wpAnyH_take hi hs hf hr (fun c a w' => hQ c a _ _ w') (.inl ⟨hw, hy⟩) hS (by rw [hd]; exact h)
theorem skipH2 (i d : Nat) {oi : Oper} {fuel : Nat} {listed : Array Bool} {a : Act} {w : World} (hQ : ∀ c a o v w, Q (.panic c) (Act.put a o v) w → Q (.panic c) a w) (hi : ops[i]? = some oi) (hd : oi.dst = some d) (hs : Region.noSelect ops = true) (hf : Region.free md ops listed i = true) (hr : (Region.ready md ops listed).contains i = true)
    (hw : Region.wanted oi (yielded ops a.tmps) = false) (hS : S w)
    (h : wpAnyH P md ops Q S fuel (listed.setIfInBounds i true) (a.put (some d) undef) w) : wpAnyH P md ops Q S (fuel + 1) listed a w :=
  wpAnyH_take hi hs hf hr (fun c a w' => hQ c a _ _ w') (.inr ⟨hw, rfl⟩) hS (by rw [hd]; exact h)
end
/-- A head, or none, as a journal. -/
def rv : Option Told → Value
  | some t => .agg #[.slice none 0 0, .slice none 0 0, .int .i64 t.seals, .int .i64 t.half, .int .i64 t.used, .slice none 0 0, .slice none 0 0]
  | none => .agg #[.slice none 0 0, .slice none 0 0, .int .i64 0, .int .i64 0, .int .i64 0, .slice none 0 0, .slice none 0 0]
def RdE (n p : Nat) (s : ByteArray) (w : World) (e : Ending) (w' : World) : Prop := ∃ o : Option Told, (∀ t, o = some t ↔ IsHead n p s t) ∧ e = .returned (rv o) ∧ Below w.heap.size w w'
def RdC (w : World) (g : Nat) (vD : List Value) (z1 z2 : Int) (hb : Nat) (W : World) : Prop := Box g vD W ∧ Box (g + 1) [.slice none 0 0, .slice none 0 0, .int .i64 0, .int .i64 0, .int .i64 0, .slice none 0 0, .slice none 0 0] W ∧
  Box (g + 1 + 1) [.slice none 0 0, .slice none 0 0, .int .i64 z1, .int .i64 hb, .int .i64 z2, .slice none 0 0, .slice none 0 0] W ∧ Below g w W
theorem RdC.below {w : World} {g : Nat} {vD : List Value} {z1 z2 : Int} {hb : Nat} {W W' : World} (h : RdC w g vD z1 z2 hb W) (hbe : Below W.heap.size W W') (hg : g ≤ W.heap.size) : RdC w g vD z1 z2 hb W' := ⟨h.1.below hbe, h.2.1.below hbe, h.2.2.1.below hbe, h.2.2.2.trans (hbe.mono hg)⟩
theorem RdC.made (w : World) (vD : List Value) (z1 z2 : Int) (hb : Nat) (T : TypeId) : RdC w w.heap.size vD z1 z2 hb (((w.alloc (.cells vD.toArray T)).alloc (.cells #[.slice none 0 0, .slice none 0 0, .int .i64 0, .int .i64 0, .int .i64 0, .slice none 0 0, .slice none 0 0] 27)).alloc (.cells #[.slice none 0 0, .slice none 0 0, .int .i64 z1, .int .i64 hb, .int .i64 z2, .slice none 0 0, .slice none 0 0] 27)) := by
  obtain ⟨h1, h2⟩ := Box.made2 w vD [.slice none 0 0, .slice none 0 0, .int .i64 0, .int .i64 0, .int .i64 0, .slice none 0 0, .slice none 0 0] T 27
  have h3 := Box.made ((w.alloc (.cells vD.toArray T)).alloc (.cells #[.slice none 0 0, .slice none 0 0, .int .i64 0, .int .i64 0, .int .i64 0, .slice none 0 0, .slice none 0 0] 27)) [.slice none 0 0, .slice none 0 0, .int .i64 z1, .int .i64 hb, .int .i64 z2, .slice none 0 0, .slice none 0 0] 27
  rw [show ((w.alloc (.cells vD.toArray T)).alloc (.cells #[.slice none 0 0, .slice none 0 0, .int .i64 0, .int .i64 0, .int .i64 0, .slice none 0 0, .slice none 0 0] 27)).heap.size = w.heap.size + 1 + 1 by simp] at h3
  exact ⟨h1.below (al _ _), h2.below (al _ _), h3, below_trans (al _ _) (below_trans (al _ _) (al _ _))⟩
set_option maxHeartbeats 8000000 in
set_option maxRecDepth 100000 in
theorem refRead_any {vS vW : Value} {ls : List ByteArray} {w : World} (hS : SRow w vS ls) (h8 : 8 ≤ ls.length) (hn : ls.length ≤ 1000) (h64 : Secs64 ls) {p : Nat} (hp : p < ls.length) (hp2 : p < 2) :
    Calls Tryz.prog 36 #[.agg #[vS, vW], .int .i64 p] w (RdE ls.length p ls[p] w) := by
  obtain ⟨aS, cap, rfl⟩ := hS.slice
  have hs6 := h64 ls[p] (List.getElem_mem hp)
  have hat := hS.at hp
  obtain ⟨bk, rfl, hlc, hbk, hc⟩ := hat
  generalize ls[p] = s at *
  obtain ⟨z1, hz1⟩ : ∃ z, numZ (cut s.data.toList 6 8) = z := ⟨_, rfl⟩
  obtain ⟨z2, hz2⟩ : ∃ z, numZ (cut s.data.toList 14 4) = z := ⟨_, rfl⟩
  obtain ⟨hb, hhb⟩ : ∃ z, (s.data.toList.getD 5 0).toNat = z := ⟨_, rfl⟩
  have HIS := Lib.hid (read_is (n := ls.length) (p := p) hn hz1 hhb hz2)
  have HN1 : Hid (∀ W, Calls Tryz.prog 69 #[.string (s.extract 6 14)] W fun e w' => e = .returned (.int .i64 z1) ∧ W = w') := Lib.hid (fun W => by
    have := refNumber_any (s.extract 6 14) (by rw [ByteArray.size_extract]; omega) W
    rwa [show (s.extract 6 14).data.toList = cut s.data.toList 6 8 from by unfold cut; simp, hz1] at this)
  have HN2 : Hid (∀ W, Calls Tryz.prog 69 #[.string (s.extract 14 18)] W fun e w' => e = .returned (.int .i64 z2) ∧ W = w') := Lib.hid (fun W => by
    have := refNumber_any (s.extract 14 18) (by rw [ByteArray.size_extract]; omega) W
    rwa [show (s.extract 14 18).data.toList = cut s.data.toList 14 4 from by unfold cut; simp, hz2] at this)
  have h5 : (s[5]'(by omega)).toNat = hb := by
    rw [← hhb, List.getD_eq_getElem?_getD, List.getElem?_eq_getElem (by rw [bytes_size]; omega)]
    rfl
  have hb5 : hb < 256 := by rw [← h5]; exact (s[5]'(by omega)).toNat_lt
  have hw5 : IntKind.i64.wrap (hb : Int) = (hb : Int) := IntWalk.i64_in _ (by omega)
  have i0 : (0 : Int) ≤ (p : Int) := by omega
  have i1 : (p : Int) < (ls.length : Int) := by omega
  have HC := Lib.hid (RdC.made w [.slice (some ⟨bk, 0, none⟩) ls.length cap, vW] z1 z2 hb 25)
  have HRM := Lib.hid (refRoom_any ls.length h8 hn)
  clear hz1 hz2 hhb hS h64
  go_enter Tryz.func36, Tryz.ntmps36
  go_upto_region 2 with fail
  go_cut [6] from 12 to 21 (fun x W => x = .pointer (some ⟨w.heap.size + 1 + 1, 0, none⟩) ∧ RdC w w.heap.size [.slice (some ⟨bk, 0, none⟩) ls.length cap, vW] z1 z2 hb W)
  case first =>
    go_region_with (first
      | (go_at_call 69; (with_reducible refine (HN1.out _).mono ?_); rintro e w1 ⟨rfl, rfl⟩)
      | (go_at_call 69; (with_reducible refine (HN2.out _).mono ?_); rintro e w2 ⟨rfl, rfl⟩))
    all_goals (go_wp2_with fail; go_meet; exact ⟨rfl, HC.out.below (dr _) HC.out.2.2.2.size⟩)
  case rest =>
    obtain ⟨rfl, hrd⟩ := hcut
    have HRD := Lib.hid hrd
    clear HC HN1 HN2
    have hgw := hrd.2.2.2.size
    generalize hgg : w.heap.size = g at *
    have HGG := Lib.hid hgg
    clear hgg
    by_cases k1 : z1 < 1
    · have k1' : decide (z1 < 1) = true := decide_eq_true k1
      have HNO : Hid (∀ t, ¬ IsHead ls.length p s t) := Lib.hid (fun t ht => by have := (HIS.out.1 t ht).1; omega)
      obtain ⟨y0, y1, y2, y3, y4, y5, y6⟩ := HRD.out.2.2.1.c7
      obtain ⟨x0, x1⟩ := HRD.out.1.c2
      obtain ⟨r0, r1, r2, r3, r4, r5, r6⟩ := HRD.out.2.1.c7
      obtain ⟨f0, f1, f2, f3, f4, f5, f6⟩ := HRD.out.2.1.f7
      go_upto_region 3 with fail
      go_region
      go_wp2_with fail
      have HE := Lib.hid ((HRD.out.2.1.st7 (.slice none 0 0) (.slice none 0 0) (.int .i64 0) (.int .i64 0) (.int .i64 0) (.slice none 0 0) (.slice none 0 0)).below (dr _))
      obtain ⟨q0, q1, q2, q3, q4, q5, q6⟩ := HE.out.c7
      have hg0 : g ≤ g + 1 := Nat.le_succ g
      have HBE := Lib.hid ((((((((HRD.out.2.2.2.setCell (p := ⟨g + 1, 0, none⟩) hg0 (.slice none 0 0)).setCell (p := ⟨g + 1, 1, none⟩) hg0 (.slice none 0 0)).setCell (p := ⟨g + 1, 2, none⟩) hg0 (.int .i64 0)).setCell (p := ⟨g + 1, 3, none⟩) hg0 (.int .i64 0)).setCell (p := ⟨g + 1, 4, none⟩) hg0 (.int .i64 0)).setCell (p := ⟨g + 1, 5, none⟩) hg0 (.slice none 0 0)).setCell (p := ⟨g + 1, 6, none⟩) hg0 (.slice none 0 0)).drew)
      exact bodyPost_ret (v := .agg #[.slice none 0 0, .slice none 0 0, .int .i64 0, .int .i64 0, .int .i64 0, .slice none 0 0, .slice none 0 0]) (by simp [results, Tryz.results36, go_sem, q0, q1, q2, q3, q4, q5, q6]) rfl ⟨none, (fun t => ⟨(fun h => by cases h), fun h => absurd h (HNO.out t)⟩), rfl, by rw [HGG.out]; exact HBE.out⟩
    have k1' : decide (z1 < 1) = false := decide_eq_false k1
    by_cases k2 : 1099511627776 < z1
    · have k2' : decide (1099511627776 < z1) = true := decide_eq_true k2
      have HNO : Hid (∀ t, ¬ IsHead ls.length p s t) := Lib.hid (fun t ht => by have := (HIS.out.1 t ht).2.1; omega)
      obtain ⟨y0, y1, y2, y3, y4, y5, y6⟩ := HRD.out.2.2.1.c7
      obtain ⟨x0, x1⟩ := HRD.out.1.c2
      obtain ⟨r0, r1, r2, r3, r4, r5, r6⟩ := HRD.out.2.1.c7
      obtain ⟨f0, f1, f2, f3, f4, f5, f6⟩ := HRD.out.2.1.f7
      go_upto_region 3 with fail
      go_region
      go_wp2_with fail
      have HE := Lib.hid ((HRD.out.2.1.st7 (.slice none 0 0) (.slice none 0 0) (.int .i64 0) (.int .i64 0) (.int .i64 0) (.slice none 0 0) (.slice none 0 0)).below (dr _))
      obtain ⟨q0, q1, q2, q3, q4, q5, q6⟩ := HE.out.c7
      have hg0 : g ≤ g + 1 := Nat.le_succ g
      have HBE := Lib.hid ((((((((HRD.out.2.2.2.setCell (p := ⟨g + 1, 0, none⟩) hg0 (.slice none 0 0)).setCell (p := ⟨g + 1, 1, none⟩) hg0 (.slice none 0 0)).setCell (p := ⟨g + 1, 2, none⟩) hg0 (.int .i64 0)).setCell (p := ⟨g + 1, 3, none⟩) hg0 (.int .i64 0)).setCell (p := ⟨g + 1, 4, none⟩) hg0 (.int .i64 0)).setCell (p := ⟨g + 1, 5, none⟩) hg0 (.slice none 0 0)).setCell (p := ⟨g + 1, 6, none⟩) hg0 (.slice none 0 0)).drew)
      exact bodyPost_ret (v := .agg #[.slice none 0 0, .slice none 0 0, .int .i64 0, .int .i64 0, .int .i64 0, .slice none 0 0, .slice none 0 0]) (by simp [results, Tryz.results36, go_sem, q0, q1, q2, q3, q4, q5, q6]) rfl ⟨none, (fun t => ⟨(fun h => by cases h), fun h => absurd h (HNO.out t)⟩), rfl, by rw [HGG.out]; exact HBE.out⟩
    have k2' : decide (1099511627776 < z1) = false := decide_eq_false k2
    obtain ⟨m, hm⟩ : ∃ m, z1 % 2 = m := ⟨_, rfl⟩
    have hm2 : z1.tmod 2 = m := by rw [Int.tmod_eq_emod_of_nonneg (by omega)]; exact hm
    by_cases k3 : m = p
    case neg =>
      have k3' : (m != (p : Int)) = true := bne_iff_ne.2 k3
      have HNO : Hid (∀ t, ¬ IsHead ls.length p s t) := Lib.hid (fun t ht => by have := (HIS.out.1 t ht).2.2.1; omega)
      obtain ⟨y0, y1, y2, y3, y4, y5, y6⟩ := HRD.out.2.2.1.c7
      obtain ⟨x0, x1⟩ := HRD.out.1.c2
      obtain ⟨r0, r1, r2, r3, r4, r5, r6⟩ := HRD.out.2.1.c7
      obtain ⟨f0, f1, f2, f3, f4, f5, f6⟩ := HRD.out.2.1.f7
      go_upto_region 3 with fail
      go_region
      go_wp2_with fail
      have HE := Lib.hid ((HRD.out.2.1.st7 (.slice none 0 0) (.slice none 0 0) (.int .i64 0) (.int .i64 0) (.int .i64 0) (.slice none 0 0) (.slice none 0 0)).below (dr _))
      obtain ⟨q0, q1, q2, q3, q4, q5, q6⟩ := HE.out.c7
      have hg0 : g ≤ g + 1 := Nat.le_succ g
      have HBE := Lib.hid ((((((((HRD.out.2.2.2.setCell (p := ⟨g + 1, 0, none⟩) hg0 (.slice none 0 0)).setCell (p := ⟨g + 1, 1, none⟩) hg0 (.slice none 0 0)).setCell (p := ⟨g + 1, 2, none⟩) hg0 (.int .i64 0)).setCell (p := ⟨g + 1, 3, none⟩) hg0 (.int .i64 0)).setCell (p := ⟨g + 1, 4, none⟩) hg0 (.int .i64 0)).setCell (p := ⟨g + 1, 5, none⟩) hg0 (.slice none 0 0)).setCell (p := ⟨g + 1, 6, none⟩) hg0 (.slice none 0 0)).drew)
      exact bodyPost_ret (v := .agg #[.slice none 0 0, .slice none 0 0, .int .i64 0, .int .i64 0, .int .i64 0, .slice none 0 0, .slice none 0 0]) (by simp [results, Tryz.results36, go_sem, q0, q1, q2, q3, q4, q5, q6]) rfl ⟨none, (fun t => ⟨(fun h => by cases h), fun h => absurd h (HNO.out t)⟩), rfl, by rw [HGG.out]; exact HBE.out⟩
    have k3' : (m != (p : Int)) = false := by rw [k3]; simp
    by_cases k4 : 1 < hb
    · have k4' : decide ((1 : Int) < (hb : Int)) = true := decide_eq_true (by omega)
      have HNO : Hid (∀ t, ¬ IsHead ls.length p s t) := Lib.hid (fun t ht => by have := (HIS.out.1 t ht).2.2.2.1; omega)
      obtain ⟨y0, y1, y2, y3, y4, y5, y6⟩ := HRD.out.2.2.1.c7
      obtain ⟨x0, x1⟩ := HRD.out.1.c2
      obtain ⟨r0, r1, r2, r3, r4, r5, r6⟩ := HRD.out.2.1.c7
      obtain ⟨f0, f1, f2, f3, f4, f5, f6⟩ := HRD.out.2.1.f7
      go_upto_region 3 with fail
      go_region
      go_wp2_with fail
      have HE := Lib.hid ((HRD.out.2.1.st7 (.slice none 0 0) (.slice none 0 0) (.int .i64 0) (.int .i64 0) (.int .i64 0) (.slice none 0 0) (.slice none 0 0)).below (dr _))
      obtain ⟨q0, q1, q2, q3, q4, q5, q6⟩ := HE.out.c7
      have hg0 : g ≤ g + 1 := Nat.le_succ g
      have HBE := Lib.hid ((((((((HRD.out.2.2.2.setCell (p := ⟨g + 1, 0, none⟩) hg0 (.slice none 0 0)).setCell (p := ⟨g + 1, 1, none⟩) hg0 (.slice none 0 0)).setCell (p := ⟨g + 1, 2, none⟩) hg0 (.int .i64 0)).setCell (p := ⟨g + 1, 3, none⟩) hg0 (.int .i64 0)).setCell (p := ⟨g + 1, 4, none⟩) hg0 (.int .i64 0)).setCell (p := ⟨g + 1, 5, none⟩) hg0 (.slice none 0 0)).setCell (p := ⟨g + 1, 6, none⟩) hg0 (.slice none 0 0)).drew)
      exact bodyPost_ret (v := .agg #[.slice none 0 0, .slice none 0 0, .int .i64 0, .int .i64 0, .int .i64 0, .slice none 0 0, .slice none 0 0]) (by simp [results, Tryz.results36, go_sem, q0, q1, q2, q3, q4, q5, q6]) rfl ⟨none, (fun t => ⟨(fun h => by cases h), fun h => absurd h (HNO.out t)⟩), rfl, by rw [HGG.out]; exact HBE.out⟩
    have k4' : decide ((1 : Int) < (hb : Int)) = false := decide_eq_false (by omega)
    by_cases k5 : z2 < 0
    · have k5' : decide (z2 < 0) = true := decide_eq_true k5
      have HNO : Hid (∀ t, ¬ IsHead ls.length p s t) := Lib.hid (fun t ht => by have := (HIS.out.1 t ht).2.2.2.2.1; omega)
      obtain ⟨y0, y1, y2, y3, y4, y5, y6⟩ := HRD.out.2.2.1.c7
      obtain ⟨x0, x1⟩ := HRD.out.1.c2
      obtain ⟨r0, r1, r2, r3, r4, r5, r6⟩ := HRD.out.2.1.c7
      obtain ⟨f0, f1, f2, f3, f4, f5, f6⟩ := HRD.out.2.1.f7
      go_upto_region 3 with fail
      go_region
      go_wp2_with fail
      have HE := Lib.hid ((HRD.out.2.1.st7 (.slice none 0 0) (.slice none 0 0) (.int .i64 0) (.int .i64 0) (.int .i64 0) (.slice none 0 0) (.slice none 0 0)).below (dr _))
      obtain ⟨q0, q1, q2, q3, q4, q5, q6⟩ := HE.out.c7
      have hg0 : g ≤ g + 1 := Nat.le_succ g
      have HBE := Lib.hid ((((((((HRD.out.2.2.2.setCell (p := ⟨g + 1, 0, none⟩) hg0 (.slice none 0 0)).setCell (p := ⟨g + 1, 1, none⟩) hg0 (.slice none 0 0)).setCell (p := ⟨g + 1, 2, none⟩) hg0 (.int .i64 0)).setCell (p := ⟨g + 1, 3, none⟩) hg0 (.int .i64 0)).setCell (p := ⟨g + 1, 4, none⟩) hg0 (.int .i64 0)).setCell (p := ⟨g + 1, 5, none⟩) hg0 (.slice none 0 0)).setCell (p := ⟨g + 1, 6, none⟩) hg0 (.slice none 0 0)).drew)
      exact bodyPost_ret (v := .agg #[.slice none 0 0, .slice none 0 0, .int .i64 0, .int .i64 0, .int .i64 0, .slice none 0 0, .slice none 0 0]) (by simp [results, Tryz.results36, go_sem, q0, q1, q2, q3, q4, q5, q6]) rfl ⟨none, (fun t => ⟨(fun h => by cases h), fun h => absurd h (HNO.out t)⟩), rfl, by rw [HGG.out]; exact HBE.out⟩
    have k5' : decide (z2 < 0) = false := decide_eq_false k5
    obtain ⟨n1, rfl⟩ : ∃ n1 : Nat, z1 = n1 := ⟨z1.toNat, by omega⟩
    obtain ⟨n2, rfl⟩ : ∃ n2 : Nat, z2 = n2 := ⟨z2.toNat, by omega⟩
    simp only [Int.toNat_natCast] at HIS
    by_cases k6 : roomN ls.length < n2
    · have k6' : decide ((roomN ls.length : Int) < (n2 : Int)) = true := decide_eq_true (by omega)
      have HNO : Hid (∀ t, ¬ IsHead ls.length p s t) := Lib.hid (fun t ht => by have := (HIS.out.1 t ht).2.2.2.2.2.1; omega)
      obtain ⟨y0, y1, y2, y3, y4, y5, y6⟩ := HRD.out.2.2.1.c7
      obtain ⟨x0, x1⟩ := HRD.out.1.c2
      obtain ⟨r0, r1, r2, r3, r4, r5, r6⟩ := HRD.out.2.1.c7
      obtain ⟨f0, f1, f2, f3, f4, f5, f6⟩ := HRD.out.2.1.f7
      go_upto_region 3 with fail
      have HSF : Hid (∀ w', Below wc.heap.size wc w' → w'.cell? ⟨g, 0, none⟩ = some (.slice (some ⟨bk, 0, none⟩) ls.length cap) ∧ w'.cell? ⟨g + 1 + 1, 2, none⟩ = some (.int .i64 n1) ∧ w'.cell? ⟨g + 1 + 1, 3, none⟩ = some (.int .i64 hb) ∧ w'.cell? ⟨g + 1 + 1, 4, none⟩ = some (.int .i64 n2)) := Lib.hid (fun w' hb => by
          obtain ⟨c0, c1, c2, c3, c4, c5, c6⟩ := (HRD.out.2.2.1.below hb).c7
          exact ⟨((HRD.out.1.below hb).c2).1, c2, c3, c4⟩)
      clear y0 y1 y2 y3 y4 y5 y6 x0 x1
      refine wp_region_noPanic ?_
      refine wp_region_held_drew (S := fun w' => w'.cell? ⟨g, 0, none⟩ = some (.slice (some ⟨bk, 0, none⟩) ls.length cap) ∧ w'.cell? ⟨g + 1 + 1, 2, none⟩ = some (.int .i64 n1) ∧ w'.cell? ⟨g + 1 + 1, 3, none⟩ = some (.int .i64 hb) ∧ w'.cell? ⟨g + 1 + 1, 4, none⟩ = some (.int .i64 n2)) (by kernel_rfl) (HSF.out _ (dr wc)) (fun hHeld => ?_)
      refine takeH2 0 22 (.pointer (some ⟨g + 1 + 1, 2, none⟩)) (fun _ _ _ _ _ h => h) rfl rfl (by kernel_rfl) (by kernel_rfl) (by kernel_rfl) (by rfl) (fun W' hSw => by (try dsimp only at hSw); go_simp) (by assumption) ?_
      try simp only [Act.put, List.setIfInBounds_toArray, List.set_cons_zero, List.set_cons_succ]
      refine takeH2 1 23 (.int .i64 n1) (fun _ _ _ _ _ h => h) rfl rfl (by kernel_rfl) (by kernel_rfl) (by kernel_rfl) (by rfl) (fun W' hSw => by (try dsimp only at hSw); go_simp) (by assumption) ?_
      try simp only [Act.put, List.setIfInBounds_toArray, List.set_cons_zero, List.set_cons_succ]
      refine takeH2 2 24 (.bool false) (fun _ _ _ _ _ h => h) rfl rfl (by kernel_rfl) (by kernel_rfl) (by kernel_rfl) (by rfl) (fun W' hSw => by (try dsimp only at hSw); go_simp) (by assumption) ?_
      try simp only [Act.put, List.setIfInBounds_toArray, List.set_cons_zero, List.set_cons_succ]
      refine takeH2 3 25 (.bool false) (fun _ _ _ _ _ h => h) rfl rfl (by kernel_rfl) (by kernel_rfl) (by kernel_rfl) (by rfl) (fun W' hSw => by (try dsimp only at hSw); go_simp) (by assumption) ?_
      try simp only [Act.put, List.setIfInBounds_toArray, List.set_cons_zero, List.set_cons_succ]
      refine takeH2 4 26 (.pointer (some ⟨g + 1 + 1, 2, none⟩)) (fun _ _ _ _ _ h => h) rfl rfl (by kernel_rfl) (by kernel_rfl) (by kernel_rfl) (by rfl) (fun W' hSw => by (try dsimp only at hSw); go_simp) (by assumption) ?_
      try simp only [Act.put, List.setIfInBounds_toArray, List.set_cons_zero, List.set_cons_succ]
      refine takeH2 5 27 (.int .i64 n1) (fun _ _ _ _ _ h => h) rfl rfl (by kernel_rfl) (by kernel_rfl) (by kernel_rfl) (by rfl) (fun W' hSw => by (try dsimp only at hSw); go_simp) (by assumption) ?_
      try simp only [Act.put, List.setIfInBounds_toArray, List.set_cons_zero, List.set_cons_succ]
      refine takeH2 6 28 (.bool false) (fun _ _ _ _ _ h => h) rfl rfl (by kernel_rfl) (by kernel_rfl) (by kernel_rfl) (by rfl) (fun W' hSw => by (try dsimp only at hSw); go_simp) (by assumption) ?_
      try simp only [Act.put, List.setIfInBounds_toArray, List.set_cons_zero, List.set_cons_succ]
      refine takeH2 7 29 (.bool false) (fun _ _ _ _ _ h => h) rfl rfl (by kernel_rfl) (by kernel_rfl) (by kernel_rfl) (by rfl) (fun W' hSw => by (try dsimp only at hSw); go_simp) (by assumption) ?_
      try simp only [Act.put, List.setIfInBounds_toArray, List.set_cons_zero, List.set_cons_succ]
      refine takeH2 8 30 (.bool false) (fun _ _ _ _ _ h => h) rfl rfl (by kernel_rfl) (by kernel_rfl) (by kernel_rfl) (by rfl) (fun W' hSw => by (try dsimp only at hSw); go_simp) (by assumption) ?_
      try simp only [Act.put, List.setIfInBounds_toArray, List.set_cons_zero, List.set_cons_succ]
      refine takeH2 9 31 (.pointer (some ⟨g + 1 + 1, 2, none⟩)) (fun _ _ _ _ _ h => h) rfl rfl (by kernel_rfl) (by kernel_rfl) (by kernel_rfl) (by rfl) (fun W' hSw => by (try dsimp only at hSw); go_simp) (by assumption) ?_
      try simp only [Act.put, List.setIfInBounds_toArray, List.set_cons_zero, List.set_cons_succ]
      refine takeH2 10 32 (.int .i64 n1) (fun _ _ _ _ _ h => h) rfl rfl (by kernel_rfl) (by kernel_rfl) (by kernel_rfl) (by rfl) (fun W' hSw => by (try dsimp only at hSw); go_simp) (by assumption) ?_
      try simp only [Act.put, List.setIfInBounds_toArray, List.set_cons_zero, List.set_cons_succ]
      refine takeH2 11 33 (.int .i64 m) (fun _ _ _ _ _ h => h) rfl rfl (by kernel_rfl) (by kernel_rfl) (by kernel_rfl) (by rfl) (fun W' hSw => by (try dsimp only at hSw); go_simp) (by assumption) ?_
      try simp only [Act.put, List.setIfInBounds_toArray, List.set_cons_zero, List.set_cons_succ]
      refine takeH2 12 34 (.int .i64 p) (fun _ _ _ _ _ h => h) rfl rfl (by kernel_rfl) (by kernel_rfl) (by kernel_rfl) (by rfl) (fun W' hSw => by (try dsimp only at hSw); go_simp) (by assumption) ?_
      try simp only [Act.put, List.setIfInBounds_toArray, List.set_cons_zero, List.set_cons_succ]
      refine takeH2 13 35 (.bool false) (fun _ _ _ _ _ h => h) rfl rfl (by kernel_rfl) (by kernel_rfl) (by kernel_rfl) (by rfl) (fun W' hSw => by (try dsimp only at hSw); go_simp) (by assumption) ?_
      try simp only [Act.put, List.setIfInBounds_toArray, List.set_cons_zero, List.set_cons_succ]
      refine takeH2 14 36 (.bool false) (fun _ _ _ _ _ h => h) rfl rfl (by kernel_rfl) (by kernel_rfl) (by kernel_rfl) (by rfl) (fun W' hSw => by (try dsimp only at hSw); go_simp) (by assumption) ?_
      try simp only [Act.put, List.setIfInBounds_toArray, List.set_cons_zero, List.set_cons_succ]
      refine takeH2 15 37 (.bool false) (fun _ _ _ _ _ h => h) rfl rfl (by kernel_rfl) (by kernel_rfl) (by kernel_rfl) (by rfl) (fun W' hSw => by (try dsimp only at hSw); go_simp) (by assumption) ?_
      try simp only [Act.put, List.setIfInBounds_toArray, List.set_cons_zero, List.set_cons_succ]
      refine takeH2 16 38 (.pointer (some ⟨g + 1 + 1, 3, none⟩)) (fun _ _ _ _ _ h => h) rfl rfl (by kernel_rfl) (by kernel_rfl) (by kernel_rfl) (by rfl) (fun W' hSw => by (try dsimp only at hSw); go_simp) (by assumption) ?_
      try simp only [Act.put, List.setIfInBounds_toArray, List.set_cons_zero, List.set_cons_succ]
      refine takeH2 17 39 (.int .i64 hb) (fun _ _ _ _ _ h => h) rfl rfl (by kernel_rfl) (by kernel_rfl) (by kernel_rfl) (by rfl) (fun W' hSw => by (try dsimp only at hSw); go_simp) (by assumption) ?_
      try simp only [Act.put, List.setIfInBounds_toArray, List.set_cons_zero, List.set_cons_succ]
      refine takeH2 18 40 (.bool false) (fun _ _ _ _ _ h => h) rfl rfl (by kernel_rfl) (by kernel_rfl) (by kernel_rfl) (by rfl) (fun W' hSw => by (try dsimp only at hSw); go_simp) (by assumption) ?_
      try simp only [Act.put, List.setIfInBounds_toArray, List.set_cons_zero, List.set_cons_succ]
      refine takeH2 19 41 (.bool false) (fun _ _ _ _ _ h => h) rfl rfl (by kernel_rfl) (by kernel_rfl) (by kernel_rfl) (by rfl) (fun W' hSw => by (try dsimp only at hSw); go_simp) (by assumption) ?_
      try simp only [Act.put, List.setIfInBounds_toArray, List.set_cons_zero, List.set_cons_succ]
      refine takeH2 20 42 (.bool false) (fun _ _ _ _ _ h => h) rfl rfl (by kernel_rfl) (by kernel_rfl) (by kernel_rfl) (by rfl) (fun W' hSw => by (try dsimp only at hSw); go_simp) (by assumption) ?_
      try simp only [Act.put, List.setIfInBounds_toArray, List.set_cons_zero, List.set_cons_succ]
      refine takeH2 21 43 (.pointer (some ⟨g + 1 + 1, 4, none⟩)) (fun _ _ _ _ _ h => h) rfl rfl (by kernel_rfl) (by kernel_rfl) (by kernel_rfl) (by rfl) (fun W' hSw => by (try dsimp only at hSw); go_simp) (by assumption) ?_
      try simp only [Act.put, List.setIfInBounds_toArray, List.set_cons_zero, List.set_cons_succ]
      refine takeH2 22 44 (.int .i64 n2) (fun _ _ _ _ _ h => h) rfl rfl (by kernel_rfl) (by kernel_rfl) (by kernel_rfl) (by rfl) (fun W' hSw => by (try dsimp only at hSw); go_simp) (by assumption) ?_
      try simp only [Act.put, List.setIfInBounds_toArray, List.set_cons_zero, List.set_cons_succ]
      refine takeH2 23 45 (.bool false) (fun _ _ _ _ _ h => h) rfl rfl (by kernel_rfl) (by kernel_rfl) (by kernel_rfl) (by rfl) (fun W' hSw => by (try dsimp only at hSw); go_simp) (by assumption) ?_
      try simp only [Act.put, List.setIfInBounds_toArray, List.set_cons_zero, List.set_cons_succ]
      refine takeH2 24 46 (.bool false) (fun _ _ _ _ _ h => h) rfl rfl (by kernel_rfl) (by kernel_rfl) (by kernel_rfl) (by rfl) (fun W' hSw => by (try dsimp only at hSw); go_simp) (by assumption) ?_
      try simp only [Act.put, List.setIfInBounds_toArray, List.set_cons_zero, List.set_cons_succ]
      refine takeH2 25 47 (.bool false) (fun _ _ _ _ _ h => h) rfl rfl (by kernel_rfl) (by kernel_rfl) (by kernel_rfl) (by rfl) (fun W' hSw => by (try dsimp only at hSw); go_simp) (by assumption) ?_
      try simp only [Act.put, List.setIfInBounds_toArray, List.set_cons_zero, List.set_cons_succ]
      refine takeH2 26 48 (.pointer (some ⟨g + 1 + 1, 4, none⟩)) (fun _ _ _ _ _ h => h) rfl rfl (by kernel_rfl) (by kernel_rfl) (by kernel_rfl) (by rfl) (fun W' hSw => by (try dsimp only at hSw); go_simp) (by assumption) ?_
      try simp only [Act.put, List.setIfInBounds_toArray, List.set_cons_zero, List.set_cons_succ]
      refine takeH2 27 49 (.int .i64 n2) (fun _ _ _ _ _ h => h) rfl rfl (by kernel_rfl) (by kernel_rfl) (by kernel_rfl) (by rfl) (fun W' hSw => by (try dsimp only at hSw); go_simp) (by assumption) ?_
      try simp only [Act.put, List.setIfInBounds_toArray, List.set_cons_zero, List.set_cons_succ]
      refine takeH2 28 50 (.pointer (some ⟨g, 0, none⟩)) (fun _ _ _ _ _ h => h) rfl rfl (by kernel_rfl) (by kernel_rfl) (by kernel_rfl) (by rfl) (fun W' hSw => by (try dsimp only at hSw); go_simp) (by assumption) ?_
      try simp only [Act.put, List.setIfInBounds_toArray, List.set_cons_zero, List.set_cons_succ]
      refine takeH2 29 51 (.slice (some ⟨bk, 0, none⟩) ls.length cap) (fun _ _ _ _ _ h => h) rfl rfl (by kernel_rfl) (by kernel_rfl) (by kernel_rfl) (by rfl) (fun W' hSw => by (try dsimp only at hSw); go_simp) (by assumption) ?_
      try simp only [Act.put, List.setIfInBounds_toArray, List.set_cons_zero, List.set_cons_succ]
      refine takeH2 30 52 (.int .i64 ls.length) (fun _ _ _ _ _ h => h) rfl rfl (by kernel_rfl) (by kernel_rfl) (by kernel_rfl) (by rfl) (fun W' hSw => by (try dsimp only at hSw); go_simp) (by assumption) ?_
      try simp only [Act.put, List.setIfInBounds_toArray, List.set_cons_zero, List.set_cons_succ]
      refine wpAnyH_ready (rs := [31]) (by kernel_rfl) (by simp) (AllReadyH.cons rfl (fun K hK => ?_) AllReadyH.nil)
      go_simp
      go_at_call 23
      (with_reducible refine (HRM.out _).mono ?_)
      rintro e w6 ⟨rfl, rfl⟩
      go_simp
      refine hK.out _ _ (HSF.out _ (dr wc)) (fun hHeld => ?_)
      clear hK
      try simp only [Act.put, List.setIfInBounds_toArray, List.set_cons_zero, List.set_cons_succ]
      refine takeH2 32 54 (.bool true) (fun _ _ _ _ _ h => h) rfl rfl (by kernel_rfl) (by kernel_rfl) (by kernel_rfl) (by rfl) (fun W' hSw => by (try dsimp only at hSw); go_simp) (by assumption) ?_
      try simp only [Act.put, List.setIfInBounds_toArray, List.set_cons_zero, List.set_cons_succ]
      refine takeH2 33 55 (.bool true) (fun _ _ _ _ _ h => h) rfl rfl (by kernel_rfl) (by kernel_rfl) (by kernel_rfl) (by rfl) (fun W' hSw => by (try dsimp only at hSw); go_simp) (by assumption) ?_
      try simp only [Act.put, List.setIfInBounds_toArray, List.set_cons_zero, List.set_cons_succ]
      refine takeH2 34 56 (.bool true) (fun _ _ _ _ _ h => h) rfl rfl (by kernel_rfl) (by kernel_rfl) (by kernel_rfl) (by rfl) (fun W' hSw => by (try dsimp only at hSw); go_simp) (by assumption) ?_
      try simp only [Act.put, List.setIfInBounds_toArray, List.set_cons_zero, List.set_cons_succ]
      refine skipH2 35 57 (fun _ _ _ _ _ h => h) rfl rfl (by kernel_rfl) (by kernel_rfl) (by kernel_rfl) (by rfl) (by assumption) ?_
      try simp only [Act.put, List.setIfInBounds_toArray, List.set_cons_zero, List.set_cons_succ]
      refine skipH2 36 58 (fun _ _ _ _ _ h => h) rfl rfl (by kernel_rfl) (by kernel_rfl) (by kernel_rfl) (by rfl) (by assumption) ?_
      try simp only [Act.put, List.setIfInBounds_toArray, List.set_cons_zero, List.set_cons_succ]
      refine skipH2 37 59 (fun _ _ _ _ _ h => h) rfl rfl (by kernel_rfl) (by kernel_rfl) (by kernel_rfl) (by rfl) (by assumption) ?_
      try simp only [Act.put, List.setIfInBounds_toArray, List.set_cons_zero, List.set_cons_succ]
      refine skipH2 38 60 (fun _ _ _ _ _ h => h) rfl rfl (by kernel_rfl) (by kernel_rfl) (by kernel_rfl) (by rfl) (by assumption) ?_
      try simp only [Act.put, List.setIfInBounds_toArray, List.set_cons_zero, List.set_cons_succ]
      refine skipH2 39 61 (fun _ _ _ _ _ h => h) rfl rfl (by kernel_rfl) (by kernel_rfl) (by kernel_rfl) (by rfl) (by assumption) ?_
      try simp only [Act.put, List.setIfInBounds_toArray, List.set_cons_zero, List.set_cons_succ]
      refine skipH2 40 62 (fun _ _ _ _ _ h => h) rfl rfl (by kernel_rfl) (by kernel_rfl) (by kernel_rfl) (by rfl) (by assumption) ?_
      try simp only [Act.put, List.setIfInBounds_toArray, List.set_cons_zero, List.set_cons_succ]
      refine skipH2 41 63 (fun _ _ _ _ _ h => h) rfl rfl (by kernel_rfl) (by kernel_rfl) (by kernel_rfl) (by rfl) (by assumption) ?_
      try simp only [Act.put, List.setIfInBounds_toArray, List.set_cons_zero, List.set_cons_succ]
      refine skipH2 42 64 (fun _ _ _ _ _ h => h) rfl rfl (by kernel_rfl) (by kernel_rfl) (by kernel_rfl) (by rfl) (by assumption) ?_
      try simp only [Act.put, List.setIfInBounds_toArray, List.set_cons_zero, List.set_cons_succ]
      refine skipH2 43 65 (fun _ _ _ _ _ h => h) rfl rfl (by kernel_rfl) (by kernel_rfl) (by kernel_rfl) (by rfl) (by assumption) ?_
      try simp only [Act.put, List.setIfInBounds_toArray, List.set_cons_zero, List.set_cons_succ]
      refine takeH2 44 66 (.bool true) (fun _ _ _ _ _ h => h) rfl rfl (by kernel_rfl) (by kernel_rfl) (by kernel_rfl) (by rfl) (fun W' hSw => by (try dsimp only at hSw); go_simp) (by assumption) ?_
      try simp only [Act.put, List.setIfInBounds_toArray, List.set_cons_zero, List.set_cons_succ]
      refine wpAnyH_done (by kernel_rfl) ?_ _
      refine NoPanic.normal ?_
      go_wp2_with fail
      have HE := Lib.hid ((HRD.out.2.1.st7 (.slice none 0 0) (.slice none 0 0) (.int .i64 0) (.int .i64 0) (.int .i64 0) (.slice none 0 0) (.slice none 0 0)).below (dr _))
      obtain ⟨q0, q1, q2, q3, q4, q5, q6⟩ := HE.out.c7
      have hg0 : g ≤ g + 1 := Nat.le_succ g
      have HBE := Lib.hid ((((((((HRD.out.2.2.2.setCell (p := ⟨g + 1, 0, none⟩) hg0 (.slice none 0 0)).setCell (p := ⟨g + 1, 1, none⟩) hg0 (.slice none 0 0)).setCell (p := ⟨g + 1, 2, none⟩) hg0 (.int .i64 0)).setCell (p := ⟨g + 1, 3, none⟩) hg0 (.int .i64 0)).setCell (p := ⟨g + 1, 4, none⟩) hg0 (.int .i64 0)).setCell (p := ⟨g + 1, 5, none⟩) hg0 (.slice none 0 0)).setCell (p := ⟨g + 1, 6, none⟩) hg0 (.slice none 0 0)).drew)
      exact bodyPost_ret (v := .agg #[.slice none 0 0, .slice none 0 0, .int .i64 0, .int .i64 0, .int .i64 0, .slice none 0 0, .slice none 0 0]) (by simp [results, Tryz.results36, go_sem, q0, q1, q2, q3, q4, q5, q6]) rfl ⟨none, (fun t => ⟨(fun h => by cases h), fun h => absurd h (HNO.out t)⟩), rfl, by rw [HGG.out]; exact HBE.out⟩
    have k6' : decide ((roomN ls.length : Int) < (n2 : Int)) = false := decide_eq_false (by omega)
    have hn1 : n1 ≤ 1099511627776 := by omega
    have hn2 : n2 ≤ 100000 := by unfold roomN hsN at k6; omega
    have HH : Hid (∀ W, Calls Tryz.prog 15 #[.int .i64 n1, .int .i64 hb, .int .i64 n2] W (TextB (headB ⟨hb, n1, n2⟩) W)) := Lib.hid (fun W => refHead_any ⟨hb, n1, n2⟩ (by show hb ≤ 1; omega) (by show n1 ≤ _; omega) (by show n2 ≤ _; omega) W)
    generalize headB ⟨hb, n1, n2⟩ = X at HIS HH
    have HY : Hid (s = X → ∀ t, some (⟨hb, n1, n2⟩ : Told) = some t ↔ IsHead ls.length p s t) := Lib.hid (fun h t => ⟨fun e => by cases e; exact HIS.out.2 (by omega) (by omega) (by omega) (by omega) (by omega) (by omega) h, fun e => by rw [(HIS.out.1 t e).2.2.2.2.2.2.2]⟩)
    have HN : Hid (¬ s = X → ∀ t, (none : Option Told) = some t ↔ IsHead ls.length p s t) := Lib.hid (fun h t => ⟨fun e => (by cases e), fun e => absurd (HIS.out.1 t e).2.2.2.2.2.2.1 h⟩)
    obtain ⟨y0, y1, y2, y3, y4, y5, y6⟩ := HRD.out.2.2.1.c7
    obtain ⟨x0, x1⟩ := HRD.out.1.c2
    obtain ⟨r0, r1, r2, r3, r4, r5, r6⟩ := HRD.out.2.1.c7
    obtain ⟨f0, f1, f2, f3, f4, f5, f6⟩ := HRD.out.2.1.f7
    go_upto_region 3 with fail
    have HSF : Hid (∀ w', Below wc.heap.size wc w' → w'.cell? ⟨g, 0, none⟩ = some (.slice (some ⟨bk, 0, none⟩) ls.length cap) ∧ w'.cell? ⟨g + 1 + 1, 2, none⟩ = some (.int .i64 n1) ∧ w'.cell? ⟨g + 1 + 1, 3, none⟩ = some (.int .i64 hb) ∧ w'.cell? ⟨g + 1 + 1, 4, none⟩ = some (.int .i64 n2)) := Lib.hid (fun w' hb => by
      obtain ⟨c0, c1, c2, c3, c4, c5, c6⟩ := (HRD.out.2.2.1.below hb).c7
      exact ⟨((HRD.out.1.below hb).c2).1, c2, c3, c4⟩)
    go_region_held3 (fun w' => w'.cell? ⟨g, 0, none⟩ = some (.slice (some ⟨bk, 0, none⟩) ls.length cap) ∧ w'.cell? ⟨g + 1 + 1, 2, none⟩ = some (.int .i64 n1) ∧ w'.cell? ⟨g + 1 + 1, 3, none⟩ = some (.int .i64 hb) ∧ w'.cell? ⟨g + 1 + 1, 4, none⟩ = some (.int .i64 n2)) (first | with_reducible exact HSF.out _ (dr wc) | with_reducible exact HSF.out _ HZ.out | fail)
      (first
        | (go_at_call 23; (with_reducible refine (HRM.out _).mono ?_); rintro e w6 ⟨rfl, rfl⟩)
        | (go_at_call 15; (with_reducible refine (HH.out _).mono ?_); rintro e w7 ⟨rfl, hz⟩; have HZ := Lib.hid (below_trans (dr wc) hz); clear hz)
        | fail)

    have HR7 := Lib.hid (HRD.out.below HZ.out hgw)
    clear y0 y1 y2 y3 y4 y5 y6 x0 x1 r0 r1 r2 r3 r4 r5 r6 f0 f1 f2 f3 f4 f5 f6
    obtain ⟨y0, y1, y2, y3, y4, y5, y6⟩ := HR7.out.2.2.1.c7
    obtain ⟨r0, r1, r2, r3, r4, r5, r6⟩ := HR7.out.2.1.c7
    obtain ⟨f0, f1, f2, f3, f4, f5, f6⟩ := HR7.out.2.1.f7
    go_wp2_with fail
    · rename_i hk
      have HO := HN.out (fun he => by rw [Go.Proofs.YtlpkalfbcphkmaaGreat.Frame.bytes_yes he] at hk; simp at hk)
      clear hk HIS HZ HSF
      have HE := Lib.hid (HR7.out.2.1.st7 (.slice none 0 0) (.slice none 0 0) (.int .i64 0) (.int .i64 0) (.int .i64 0) (.slice none 0 0) (.slice none 0 0))
      obtain ⟨q0, q1, q2, q3, q4, q5, q6⟩ := HE.out.c7
      clear y0 y1 y2 y3 y4 y5 y6 r0 r1 r2 r3 r4 r5 r6 f0 f1 f2 f3 f4 f5 f6
      have hg0 : g ≤ g + 1 := Nat.le_succ g
      have HBE := Lib.hid (((((((HR7.out.2.2.2.setCell (p := ⟨g + 1, 0, none⟩) hg0 (.slice none 0 0)).setCell (p := ⟨g + 1, 1, none⟩) hg0 (.slice none 0 0)).setCell (p := ⟨g + 1, 2, none⟩) hg0 (.int .i64 0)).setCell (p := ⟨g + 1, 3, none⟩) hg0 (.int .i64 0)).setCell (p := ⟨g + 1, 4, none⟩) hg0 (.int .i64 0)).setCell (p := ⟨g + 1, 5, none⟩) hg0 (.slice none 0 0)).setCell (p := ⟨g + 1, 6, none⟩) hg0 (.slice none 0 0))
      refine bodyPost_ret (v := .agg #[.slice none 0 0, .slice none 0 0, .int .i64 0, .int .i64 0, .int .i64 0, .slice none 0 0, .slice none 0 0]) (by simp [results, Tryz.results36, go_sem, q0, q1, q2, q3, q4, q5, q6]) rfl ?_
      exact ⟨none, HO, rfl, HGG.out ▸ HBE.out⟩
    · rename_i hk
      have HO := HY.out (Classical.byContradiction fun hne => by rw [Go.Proofs.YtlpkalfbcphkmaaGreat.Frame.bytes_no hne] at hk; simp at hk)
      clear hk HIS HZ HSF
      have HE := Lib.hid (HR7.out.2.1.st7 (.slice none 0 0) (.slice none 0 0) (.int .i64 n1) (.int .i64 hb) (.int .i64 n2) (.slice none 0 0) (.slice none 0 0))
      obtain ⟨q0, q1, q2, q3, q4, q5, q6⟩ := HE.out.c7
      clear y0 y1 y2 y3 y4 y5 y6 r0 r1 r2 r3 r4 r5 r6 f0 f1 f2 f3 f4 f5 f6
      have hg0 : g ≤ g + 1 := Nat.le_succ g
      have HBE := Lib.hid (((((((HR7.out.2.2.2.setCell (p := ⟨g + 1, 0, none⟩) hg0 (.slice none 0 0)).setCell (p := ⟨g + 1, 1, none⟩) hg0 (.slice none 0 0)).setCell (p := ⟨g + 1, 2, none⟩) hg0 (.int .i64 n1)).setCell (p := ⟨g + 1, 3, none⟩) hg0 (.int .i64 hb)).setCell (p := ⟨g + 1, 4, none⟩) hg0 (.int .i64 n2)).setCell (p := ⟨g + 1, 5, none⟩) hg0 (.slice none 0 0)).setCell (p := ⟨g + 1, 6, none⟩) hg0 (.slice none 0 0))
      refine bodyPost_ret (v := .agg #[.slice none 0 0, .slice none 0 0, .int .i64 n1, .int .i64 hb, .int .i64 n2, .slice none 0 0, .slice none 0 0]) (by simp [results, Tryz.results36, go_sem, q0, q1, q2, q3, q4, q5, q6]) rfl ?_
      exact ⟨some ⟨hb, n1, n2⟩, HO, rfl, HGG.out ▸ HBE.out⟩
end Go.Proofs.YtlpkalfbcphkmaaGreat.Disk.Jn

/-
  Contract of the reference of journal: Open.
-/
namespace Go.Proofs.YtlpkalfbcphkmaaGreat.Disk.Jn
open Go.ChangeShapes Go.WideShapes Go.ChangeAt Go.RowKit Go.Lib
open Go.Proofs.YtlpkalfbcphkmaaGreat.Frame (frm frms Scn scn_some scn_bytes)

def sO : Option Told → Nat
  | some t => t.seals
  | none => 0
def hO : Option Told → Nat
  | some t => t.half
  | none => 0
def uO : Option Told → Nat
  | some t => t.used
  | none => 0
theorem rv_is (o : Option Told) : rv o = .agg #[.slice none 0 0, .slice none 0 0, .int .i64 (sO o), .int .i64 (hO o), .int .i64 (uO o), .slice none 0 0, .slice none 0 0] := by cases o <;> rfl
/-- Of two heads the one of more seals, or the first one. -/
theorem pick_new {ls : List ByteArray} {t : Told} (h : Newest ls t) {o0 o1 : Option Told} (h0 : ∀ t, o0 = some t ↔ IsHead ls.length 0 (ls.getD 0 ⟨#[]⟩) t) (h1 : ∀ t, o1 = some t ↔ IsHead ls.length 1 (ls.getD 1 ⟨#[]⟩) t) :
    (sO o0 < sO o1 ∧ o1 = some t) ∨ (¬ sO o0 < sO o1 ∧ o0 = some t) := by
  obtain ⟨h2, h3⟩ := h
  have hp := h2.1.2.1
  rcases (by omega : t.seals % 2 = 0 ∨ t.seals % 2 = 1) with c | c
  · rw [c] at h2
    have e := (h0 t).2 h2
    refine .inr ⟨?_, e⟩
    subst e
    cases o1 with
    | none => simp [sO]
    | some t' =>
      have := h3 1 (by omega) t' ((h1 t').1 rfl)
      simp only [sO]; omega
  · rw [c] at h2
    have e := (h1 t).2 h2
    refine .inl ⟨?_, e⟩
    subst e
    cases o0 with
    | none => simp only [sO]; omega
    | some t' =>
      have h4 := (h0 t').1 rfl
      have := h3 0 (by omega) t' h4
      have := h4.2.1
      simp only [sO]; omega
theorem pick_no {ls : List ByteArray} (h : NoHead ls) {p : Nat} (hp : p < 2) {o : Option Told} (h0 : ∀ t, o = some t ↔ IsHead ls.length p (ls.getD p ⟨#[]⟩) t) : o = none := by
  cases o with
  | none => rfl
  | some t => exact absurd ((h0 t).1 rfl) (h p hp t)

/-- A journal and an error, as a value. -/
def tv8 (vS vW : Value) (s h u : Int) (vG vR : Value) (k : Int) : Value := .agg #[vS, vW, .int .i64 s, .int .i64 h, .int .i64 u, vG, vR, .int .i64 k]
def NoT (k : Int) (w : World) (e : Ending) (w' : World) : Prop := e = .returned (tv8 (.slice none 0 0) (.slice none 0 0) 0 0 0 (.slice none 0 0) (.slice none 0 0) k) ∧ Below w.heap.size w w'
def YesT (vS vW : Value) (t : Told) (l : List ByteArray) (w : World) (e : Ending) (w' : World) : Prop := ∃ vR, e = .returned (tv8 vS vW t.seals t.half t.used (.slice none 0 0) vR 0) ∧ SRow w' vR l ∧ Below w.heap.size w w'

theorem Box.c8 {b : Nat} {c0 c1 c2 c3 c4 c5 c6 c7 : Value} {w : World} (h : Box b [c0, c1, c2, c3, c4, c5, c6, c7] w) : w.cell? ⟨b, 0, none⟩ = some c0 ∧ w.cell? ⟨b, 1, none⟩ = some c1 ∧ w.cell? ⟨b, 2, none⟩ = some c2 ∧ w.cell? ⟨b, 3, none⟩ = some c3 ∧ w.cell? ⟨b, 4, none⟩ = some c4 ∧ w.cell? ⟨b, 5, none⟩ = some c5 ∧ w.cell? ⟨b, 6, none⟩ = some c6 ∧ w.cell? ⟨b, 7, none⟩ = some c7 :=
  ⟨(h.2 0 _ rfl).1, (h.2 1 _ rfl).1, (h.2 2 _ rfl).1, (h.2 3 _ rfl).1, (h.2 4 _ rfl).1, (h.2 5 _ rfl).1, (h.2 6 _ rfl).1, (h.2 7 _ rfl).1⟩
theorem Box.f8 {b : Nat} {c0 c1 c2 c3 c4 c5 c6 c7 : Value} {w : World} (h : Box b [c0, c1, c2, c3, c4, c5, c6, c7] w) : w.frozen? ⟨b, 0, none⟩ = false ∧ w.frozen? ⟨b, 1, none⟩ = false ∧ w.frozen? ⟨b, 2, none⟩ = false ∧ w.frozen? ⟨b, 3, none⟩ = false ∧ w.frozen? ⟨b, 4, none⟩ = false ∧ w.frozen? ⟨b, 5, none⟩ = false ∧ w.frozen? ⟨b, 6, none⟩ = false ∧ w.frozen? ⟨b, 7, none⟩ = false :=
  ⟨(h.2 0 _ rfl).2, (h.2 1 _ rfl).2, (h.2 2 _ rfl).2, (h.2 3 _ rfl).2, (h.2 4 _ rfl).2, (h.2 5 _ rfl).2, (h.2 6 _ rfl).2, (h.2 7 _ rfl).2⟩
abbrev s8 (W : World) (b : Nat) (u0 u1 u2 u3 u4 u5 u6 u7 : Value) : World := (((((((W.setCell ⟨b, 0, none⟩ u0).setCell ⟨b, 1, none⟩ u1).setCell ⟨b, 2, none⟩ u2).setCell ⟨b, 3, none⟩ u3).setCell ⟨b, 4, none⟩ u4).setCell ⟨b, 5, none⟩ u5).setCell ⟨b, 6, none⟩ u6).setCell ⟨b, 7, none⟩ u7
abbrev s7 (W : World) (b : Nat) (u0 u1 u2 u3 u4 u5 u6 : Value) : World := ((((((W.setCell ⟨b, 0, none⟩ u0).setCell ⟨b, 1, none⟩ u1).setCell ⟨b, 2, none⟩ u2).setCell ⟨b, 3, none⟩ u3).setCell ⟨b, 4, none⟩ u4).setCell ⟨b, 5, none⟩ u5).setCell ⟨b, 6, none⟩ u6
theorem Box.st8 {b : Nat} {c0 c1 c2 c3 c4 c5 c6 c7 : Value} {w : World} (h : Box b [c0, c1, c2, c3, c4, c5, c6, c7] w) (u0 u1 u2 u3 u4 u5 u6 u7 : Value) : Box b [u0, u1, u2, u3, u4, u5, u6, u7] (s8 w b u0 u1 u2 u3 u4 u5 u6 u7) :=
  (((((((h.one (i := 0) (by simp) u0).one (i := 1) (by simp) u1).one (i := 2) (by simp) u2).one (i := 3) (by simp) u3).one (i := 4) (by simp) u4).one (i := 5) (by simp) u5).one (i := 6) (by simp) u6).one (i := 7) (by simp) u7
theorem below_s8 {w W : World} {b : Nat} (h : Below w.heap.size w W) (hb : w.heap.size ≤ b) (u0 u1 u2 u3 u4 u5 u6 u7 : Value) : Below w.heap.size w (s8 W b u0 u1 u2 u3 u4 u5 u6 u7) := below_st (below_st7 h hb _ _ _ _ _ _ _) hb _ _
theorem SRow.s8 {b : Nat} {v : Value} {l : List ByteArray} {W : World} (h : SRow W v l) (hf : From (b + 1) v) (u0 u1 u2 u3 u4 u5 u6 u7 : Value) : SRow (s8 W b u0 u1 u2 u3 u4 u5 u6 u7) v l := (SRow.st7 h hf _ _ _ _ _ _ _).stored hf

def z8 : List Value := [.slice none 0 0, .slice none 0 0, .int .i64 0, .int .i64 0, .int .i64 0, .slice none 0 0, .slice none 0 0, .int .i64 0]
/-- Open's blocks: the disk, the result. -/
structure O8 (w : World) (vS vW : Value) (W : World) : Prop where
  b : Below w.heap.size w W
  d : Box w.heap.size [vS, vW] W
  r : Box (w.heap.size + 1) z8 W
theorem O8.made (w : World) (vS vW : Value) : O8 w vS vW ((w.alloc (.cells #[vS, vW] 25)).alloc (.cells #[.slice none 0 0, .slice none 0 0, .int .i64 0, .int .i64 0, .int .i64 0, .slice none 0 0, .slice none 0 0, .int .i64 0] 34)) := by
  obtain ⟨h1, h2⟩ := Box.made2 w [vS, vW] z8 25 34
  exact ⟨below_trans (al _ _) (al _ _), h1, h2⟩
theorem O8.below {w W W' : World} {vS vW : Value} (h : O8 w vS vW W) (hb : Below W.heap.size W W') : O8 w vS vW W' := ⟨below_trans h.b hb, h.d.below hb, h.r.below hb⟩
theorem O8.no {w W : World} {vS vW : Value} (h : O8 w vS vW W) (k : Int) :
    Box (w.heap.size + 1) [.slice none 0 0, .slice none 0 0, .int .i64 0, .int .i64 0, .int .i64 0, .slice none 0 0, .slice none 0 0, .int .i64 k] (s8 W (w.heap.size + 1) (.slice none 0 0) (.slice none 0 0) (.int .i64 0) (.int .i64 0) (.int .i64 0) (.slice none 0 0) (.slice none 0 0) (.int .i64 k)) ∧
    NoT k w (.returned (tv8 (.slice none 0 0) (.slice none 0 0) 0 0 0 (.slice none 0 0) (.slice none 0 0) k)) (s8 W (w.heap.size + 1) (.slice none 0 0) (.slice none 0 0) (.int .i64 0) (.int .i64 0) (.int .i64 0) (.slice none 0 0) (.slice none 0 0) (.int .i64 k)) :=
  ⟨h.r.st8 _ _ _ _ _ _ _ _, rfl, below_s8 h.b (by omega) _ _ _ _ _ _ _ _⟩

set_option maxHeartbeats 2000000 in
set_option maxRecDepth 100000 in
theorem refOpen_arg {vS vW : Value} {ls : List ByteArray} {ws : List (Int × ByteArray)} {w : World} (hS : SRow w vS ls) (hW : WRow w vW ws) (hr : smallP ls ws) (hf : rightB ls ws = false ∨ ls.length < 8 ∨ 0 < ws.length) : Calls Tryz.prog 9 #[.agg #[vS, vW]] w (NoT 1 w) := by
  have HR := Lib.hid (fun W (h : Below w.heap.size w W) => refRight_any (hS.below h) (hW.below h) hr)
  obtain ⟨aS, cap, rfl⟩ := hS.slice
  obtain ⟨aW, capW, rfl⟩ := hW.slice
  have HA := Lib.hid (O8.made w (.slice aS ls.length cap) (.slice aW ws.length capW))
  have hn := hr.1
  have hm := hr.2.1
  generalize rightB ls ws = rb at HR hf
  have hcases : rb = false ∨ (rb = true ∧ ls.length < 8) ∨ (rb = true ∧ ¬ ls.length < 8 ∧ 0 < ws.length) := by
    cases rb
    · exact .inl rfl
    · rcases hf with h | h | h
      · cases h
      · exact .inr (.inl ⟨rfl, h⟩)
      · by_cases c : ls.length < 8
        · exact .inr (.inl ⟨rfl, c⟩)
        · exact .inr (.inr ⟨rfl, c, h⟩)
  clear hS hW hf hr
  go_enter Tryz.func9, Tryz.ntmps9
  go_wp2_with fail
  refine (HR.out _ HA.out.b).mono ?_
  rintro e X ⟨rfl, hx⟩
  have HX := Lib.hid (HA.out.below hx)
  clear hx HA HR
  obtain ⟨b0, b1⟩ := HX.out.d.c2
  obtain ⟨f0, f1, f2, f3, f4, f5, f6, f7⟩ := HX.out.r.f8
  obtain ⟨r0, r1, r2, r3, r4, r5, r6, r7⟩ := HX.out.r.c8
  have HZ := Lib.hid (HX.out.no 1)
  rcases hcases with rfl | ⟨rfl, hlt⟩ | ⟨rfl, hlt, hw⟩
  all_goals
    go_wp2_with fail
    obtain ⟨z0, z1, z2, z3, z4, z5, z6, z7⟩ := HZ.out.1.c8
    exact bodyPost_ret (v := .agg #[.slice none 0 0, .slice none 0 0, .int .i64 0, .int .i64 0, .int .i64 0, .slice none 0 0, .slice none 0 0, .int .i64 1]) (by simp [results, Tryz.results9, go_sem, z0, z1, z2, z3, z4, z5, z6, z7]) rfl HZ.out.2

/-- Open's blocks: and the two heads, as journals. -/
structure O9 (w : World) (vS vW : Value) (jb xb : Nat) (o0 o1 : Option Told) (W : World) : Prop where
  o : O8 w vS vW W
  j : Box jb [.slice none 0 0, .slice none 0 0, .int .i64 (sO o0), .int .i64 (hO o0), .int .i64 (uO o0), .slice none 0 0, .slice none 0 0] W
  x : Box xb [.slice none 0 0, .slice none 0 0, .int .i64 (sO o1), .int .i64 (hO o1), .int .i64 (uO o1), .slice none 0 0, .slice none 0 0] W
  jl : w.heap.size + 1 < jb
  xl : jb < xb
theorem O9.made {w Y Z : World} {vS vW : Value} {o0 o1 : Option Told} (hY : O8 w vS vW Y) (hb : Below (Y.alloc (.cells #[.slice none 0 0, .slice none 0 0, .int .i64 (sO o0), .int .i64 (hO o0), .int .i64 (uO o0), .slice none 0 0, .slice none 0 0] 27)).heap.size (Y.alloc (.cells #[.slice none 0 0, .slice none 0 0, .int .i64 (sO o0), .int .i64 (hO o0), .int .i64 (uO o0), .slice none 0 0, .slice none 0 0] 27)) Z) :
    O9 w vS vW Y.heap.size Z.heap.size o0 o1 (Z.alloc (.cells #[.slice none 0 0, .slice none 0 0, .int .i64 (sO o1), .int .i64 (hO o1), .int .i64 (uO o1), .slice none 0 0, .slice none 0 0] 27)) := by
  have hs := hb.size
  rw [World.size_alloc] at hs
  exact ⟨((hY.below (al _ _)).below hb).below (al _ _), ((Box.made Y [.slice none 0 0, .slice none 0 0, .int .i64 (sO o0), .int .i64 (hO o0), .int .i64 (uO o0), .slice none 0 0, .slice none 0 0] 27).below hb).below (al _ _), Box.made Z _ _, hY.r.1, by omega⟩

set_option maxHeartbeats 4000000 in
set_option maxRecDepth 100000 in
theorem refOpen_none {vS vW : Value} {ls : List ByteArray} {w : World} (hS : SRow w vS ls) (hW : WRow w vW []) (hb : rightB ls [] = true) (h8 : 8 ≤ ls.length) (hno : NoHead ls) : Calls Tryz.prog 9 #[.agg #[vS, vW]] w (NoT 5 w) := by
  have hP := rightB_t.1 hb
  have hn : ls.length ≤ 1000 := by have := hP.2.1; omega
  have hr : smallP ls [] := ⟨hn, by simp, fun j h => by rw [hP.2.2.2.1 j h]; omega, fun j h => by simp at h⟩
  have HR := Lib.hid (fun W (h : Below w.heap.size w W) => hb ▸ refRight_any (hS.below h) (hW.below h) hr)
  have HD0 := Lib.hid (fun W (h : Below w.heap.size w W) => (show Calls Tryz.prog 36 #[.agg #[vS, vW], .int .i64 0] W (RdE ls.length 0 (ls[0]'(by omega)) W) from refRead_any (vW := vW) (hS.below h) h8 hn (secs_of hb) (p := 0) (by omega) (by omega)))
  have HD1 := Lib.hid (fun W (h : Below w.heap.size w W) => (show Calls Tryz.prog 36 #[.agg #[vS, vW], .int .i64 1] W (RdE ls.length 1 (ls[1]'(by omega)) W) from refRead_any (vW := vW) (hS.below h) h8 hn (secs_of hb) (p := 1) (by omega) (by omega)))
  have HN : Hid (∀ o : Option Told, ∀ p (hp : p < 2), (∀ t, o = some t ↔ IsHead ls.length p (ls[p]'(by omega)) t) → o = none) := Lib.hid (fun o p hp h => pick_no hno hp (by rw [List.getD, List.getElem?_eq_getElem (by omega)]; exact h))
  obtain ⟨aS, cap, rfl⟩ := hS.slice
  obtain ⟨aW, capW, rfl⟩ : ∃ a c, vW = .slice a 0 c := hW.slice
  have HA := Lib.hid (O8.made w (.slice aS ls.length cap) (.slice aW 0 capW))
  clear hS hW hr hP hno
  go_enter Tryz.func9, Tryz.ntmps9
  go_wp2_with fail
  refine (HR.out _ HA.out.b).mono ?_
  rintro e X ⟨rfl, hx⟩
  have HX := Lib.hid (HA.out.below hx)
  clear hx HA HR
  obtain ⟨b0, b1⟩ := HX.out.d.c2
  go_upto_region 5 with (first
    | (go_at_call 36; (with_reducible refine (HD0.out _ HX.out.b).mono ?_); rintro e Y ⟨o0, ho0, rfl, hy⟩; rw [rv_is]; have HO0 := Lib.hid (HN.out o0 0 (by omega) ho0); have HY := Lib.hid (HX.out.below hy); have HYA := Lib.hid ((HX.out.below hy).below (al Y (.cells #[.slice none 0 0, .slice none 0 0, .int .i64 (sO o0), .int .i64 (hO o0), .int .i64 (uO o0), .slice none 0 0, .slice none 0 0] 27))); clear b0 b1 hy; obtain ⟨b0, b1⟩ := HYA.out.d.c2)
    | (go_at_call 36; (with_reducible refine (HD1.out _ HYA.out.b).mono ?_); rintro e Z ⟨o1, ho1, rfl, hz⟩; rw [rv_is]; have HO1 := Lib.hid (HN.out o1 1 (by omega) ho1); have HZ := Lib.hid (O9.made (o1 := o1) HY.out hz); clear b0 b1 hz))
  have hs0 : ((sO o0 : Nat) : Int) = 0 := by rw [HO0.out]; rfl
  have hs1 : ((sO o1 : Nat) : Int) = 0 := by rw [HO1.out]; rfl
  generalize (Z.alloc _) = U at HZ ⊢
  generalize Z.heap.size = xb at HZ ⊢
  generalize Y.heap.size = jb at HZ ⊢
  obtain ⟨c0, c1, c2, c3, c4, c5, c6⟩ := HZ.out.j.c7
  obtain ⟨e0, e1, e2, e3, e4, e5, e6⟩ := HZ.out.x.c7
  obtain ⟨f0, f1, f2, f3, f4, f5, f6, f7⟩ := HZ.out.o.r.f8
  obtain ⟨r0, r1, r2, r3, r4, r5, r6, r7⟩ := HZ.out.o.r.c8
  rw [hs0] at c2
  rw [hs1] at e2
  have HE := Lib.hid (HZ.out.o.no 5)
  clear hs0 hs1 HY HYA HX HD0 HD1 HN
  go_wp2_with fail
  obtain ⟨z0, z1, z2, z3, z4, z5, z6, z7⟩ := HE.out.1.c8
  exact bodyPost_ret (v := .agg #[.slice none 0 0, .slice none 0 0, .int .i64 0, .int .i64 0, .int .i64 0, .slice none 0 0, .slice none 0 0, .int .i64 5]) (by simp [results, Tryz.results9, go_sem, z0, z1, z2, z3, z4, z5, z6, z7]) rfl HE.out.2

/-- Open's blocks: and the newest head, as a journal. -/
structure O7 (w : World) (vS vW : Value) (jb : Nat) (t : Told) (W : World) : Prop where
  o : O8 w vS vW W
  j : Box jb [.slice none 0 0, .slice none 0 0, .int .i64 t.seals, .int .i64 t.half, .int .i64 t.used, .slice none 0 0, .slice none 0 0] W
  jl : w.heap.size + 1 < jb
theorem O7.below {w W W' : World} {vS vW : Value} {jb : Nat} {t : Told} (h : O7 w vS vW jb t W) (hb : Below W.heap.size W W') : O7 w vS vW jb t W' := ⟨h.o.below hb, h.j.below hb, h.jl⟩
theorem O8.setj {w W : World} {vS vW : Value} (h : O8 w vS vW W) {jb i : Nat} (hl : w.heap.size + 1 < jb) (u : Value) : O8 w vS vW (W.setCell ⟨jb, i, none⟩ u) := ⟨below_st h.b (by omega) _ _, h.d.other (by omega) _, h.r.other (by omega) _⟩
theorem O9.pick1 {w W : World} {vS vW : Value} {jb xb : Nat} {o0 : Option Told} {t : Told} (h : O9 w vS vW jb xb o0 (some t) W) : O7 w vS vW jb t (s7 W jb (.slice none 0 0) (.slice none 0 0) (.int .i64 t.seals) (.int .i64 t.half) (.int .i64 t.used) (.slice none 0 0) (.slice none 0 0)) :=
  ⟨((((((h.o.setj h.jl _).setj h.jl _).setj h.jl _).setj h.jl _).setj h.jl _).setj h.jl _).setj h.jl _, h.j.st7 _ _ _ _ _ _ _, h.jl⟩
theorem O7.scan {w U1 U2 : World} {vS vW vR : Value} {jb : Nat} {t : Told} {l : List ByteArray} (h : O7 w vS vW jb t U1) (hb : Below U1.heap.size U1 U2) (hR : SRow U2 vR l) (hf : From U1.heap.size vR) :
    O8 w vS vW (U2.setCell ⟨jb, 6, none⟩ vR) ∧ Box jb [.slice none 0 0, .slice none 0 0, .int .i64 t.seals, .int .i64 t.half, .int .i64 t.used, .slice none 0 0, vR] (U2.setCell ⟨jb, 6, none⟩ vR) ∧ SRow (U2.setCell ⟨jb, 6, none⟩ vR) vR l ∧ From (jb + 1) vR := by
  have hf' : From (jb + 1) vR := hf.mono h.j.1
  exact ⟨(h.o.below hb).setj h.jl _, (h.j.below hb).one (i := 6) (by simp) _, hR.stored hf', hf'⟩
theorem O8.yes {w U : World} {vS vW vR : Value} {jb : Nat} {t : Told} {l : List ByteArray} (h : O8 w vS vW U) (hl : w.heap.size + 1 < jb) (hR : SRow U vR l) (hf : From (jb + 1) vR) :
    Box (w.heap.size + 1) [vS, vW, .int .i64 t.seals, .int .i64 t.half, .int .i64 t.used, .slice none 0 0, vR, .int .i64 0] (s8 ((U.setCell ⟨jb, 0, none⟩ vS).setCell ⟨jb, 1, none⟩ vW) (w.heap.size + 1) vS vW (.int .i64 t.seals) (.int .i64 t.half) (.int .i64 t.used) (.slice none 0 0) vR (.int .i64 0)) ∧
    YesT vS vW t l w (.returned (tv8 vS vW t.seals t.half t.used (.slice none 0 0) vR 0)) (s8 ((U.setCell ⟨jb, 0, none⟩ vS).setCell ⟨jb, 1, none⟩ vW) (w.heap.size + 1) vS vW (.int .i64 t.seals) (.int .i64 t.half) (.int .i64 t.used) (.slice none 0 0) vR (.int .i64 0)) := by
  have h' := (h.setj (i := 0) hl vS).setj (i := 1) hl vW
  exact ⟨h'.r.st8 _ _ _ _ _ _ _ _, _, rfl, SRow.s8 ((hR.stored hf).stored hf) (hf.mono (by omega)) _ _ _ _ _ _ _ _, below_s8 h'.b (by omega) _ _ _ _ _ _ _ _⟩

def OpenT (vS vW : Value) (t : Told) (l : List ByteArray) (k : Int) (w : World) (e : Ending) (w' : World) : Prop := (k = 0 → YesT vS vW t l w e w') ∧ (k = 6 → NoT 6 w e w')
set_option maxHeartbeats 8000000 in
set_option maxRecDepth 100000 in
theorem refOpen_head {vS vW : Value} {ls : List ByteArray} {w : World} (hS : SRow w vS ls) (hW : WRow w vW []) (hb : rightB ls [] = true) (h8 : 8 ≤ ls.length) {t : Told} (hnw : Newest ls t) {l : List ByteArray} {k : Int}
    (hk : (k = 0 ∧ (bytesOf ls t.half).take t.used = frms l ∧ ∀ d ∈ l, d.size ≤ 4096) ∨ (k = 6 ∧ l = [] ∧ ∀ m, (∀ d ∈ m, d.size ≤ 4096) → (bytesOf ls t.half).take t.used ≠ frms m)) :
    Calls Tryz.prog 9 #[.agg #[vS, vW]] w (OpenT vS vW t l k w) := by
  have hP := rightB_t.1 hb
  have hn : ls.length ≤ 1000 := by have := hP.2.1; omega
  have hr : smallP ls [] := ⟨hn, by simp, fun j h => by rw [hP.2.2.2.1 j h]; omega, fun j h => by simp at h⟩
  have hmay := hnw.1.1
  have HR := Lib.hid (fun W (h : Below w.heap.size w W) => hb ▸ refRight_any (hS.below h) (hW.below h) hr)
  have HD0 := Lib.hid (fun W (h : Below w.heap.size w W) => (show Calls Tryz.prog 36 #[.agg #[vS, vW], .int .i64 0] W (RdE ls.length 0 (ls[0]'(by omega)) W) from refRead_any (vW := vW) (hS.below h) h8 hn (secs_of hb) (p := 0) (by omega) (by omega)))
  have HD1 := Lib.hid (fun W (h : Below w.heap.size w W) => (show Calls Tryz.prog 36 #[.agg #[vS, vW], .int .i64 1] W (RdE ls.length 1 (ls[1]'(by omega)) W) from refRead_any (vW := vW) (hS.below h) h8 hn (secs_of hb) (p := 1) (by omega) (by omega)))
  have HPK : Hid (∀ o0 o1 : Option Told, (∀ t, o0 = some t ↔ IsHead ls.length 0 (ls[0]'(by omega)) t) → (∀ t, o1 = some t ↔ IsHead ls.length 1 (ls[1]'(by omega)) t) → (sO o0 < sO o1 ∧ o1 = some t) ∨ (¬ sO o0 < sO o1 ∧ o0 = some t)) := Lib.hid (fun o0 o1 h0 h1 => pick_new hnw (fun t => by rw [List.getD, List.getElem?_eq_getElem (by omega)]; exact h0 t) (fun t => by rw [List.getD, List.getElem?_eq_getElem (by omega)]; exact h1 t))
  have hlen := bytesOf_len (secs_of hb) h8 hmay.1
  have hroom : roomN ls.length ≤ 64000 := by unfold roomN hsN; omega
  have HBY := Lib.hid (fun W (h : Below w.heap.size w W) => refBytes_any (hS.below h) (hW.below h) h8 hn (secs_of hb) hmay.1 hmay.2.2.2)
  obtain ⟨bl, hbl⟩ : ∃ bl : ByteArray, (⟨((bytesOf ls t.half).take t.used).toArray⟩ : ByteArray) = bl := ⟨_, rfl⟩
  have hbs : bl.size ≤ 64000 := by
    rw [← hbl, Go.Proofs.YtlpkalfbcphkmaaGreat.Frame.mk_size, List.length_take]; omega
  have hcut : bl.data.toList = (bytesOf ls t.half).take t.used := by rw [← hbl, Go.Proofs.YtlpkalfbcphkmaaGreat.Frame.mk_list]
  obtain ⟨sl, st, hsc⟩ := scn_some _ bl (Nat.le_refl _)
  have HSC := Lib.hid (fun W => Go.Proofs.YtlpkalfbcphkmaaGreat.Frame.refScan_any hsc (by omega) W)
  have hall := all_of hsc
  have hby := scn_bytes hsc
  rw [hcut] at hall
  have hK : (k = 0 ∧ st.size = 0 ∧ sl = l) ∨ (k = 6 ∧ st.size ≠ 0) := by
    rcases hk with ⟨rfl, h1, h2⟩ | ⟨rfl, _, h1⟩
    · left
      have h0 : st.size = 0 := by
        apply Classical.byContradiction
        intro hc
        exact hall.2 hc l h2 h1
      exact ⟨rfl, h0, frms_inj (hall.1 h0).2 h2 ((hall.1 h0).1.symm.trans h1)⟩
    · right
      exact ⟨rfl, fun h0 => h1 sl (hall.1 h0).2 (hall.1 h0).1⟩
  have hfr : (frms sl).length ≤ 64000 := by
    have := congrArg List.length hby.1
    rw [List.length_append, bytes_size] at this
    omega
  have hsl : sl.length ≤ 1000000 := by have := hby.2.2; omega
  have HWH := Lib.hid (fun (v : Value) (W : World) (h : SRow W v sl) => (show Calls Tryz.prog 21 #[v] W (fun e w' => e = .returned (.string ⟨(frms sl).toArray⟩) ∧ Below W.heap.size W w') from Go.Proofs.YtlpkalfbcphkmaaGreat.Frame.Whole_any h hby.2.1 (by omega) hsl))
  have HEQ : Hid (st.size = 0 ↔ (⟨(frms sl).toArray⟩ : ByteArray) = bl) := Lib.hid (by
    constructor
    · intro h0
      have : st.data.toList = [] := List.length_eq_zero_iff.1 (by rw [bytes_size]; exact h0)
      rw [this, List.append_nil] at hby
      exact (bytes_of hby.1).symm
    · intro e
      have h1 := hby.1
      rw [← e] at h1
      have h2 := congrArg List.length h1
      rw [List.length_append, Go.Proofs.YtlpkalfbcphkmaaGreat.Frame.mk_list, bytes_size] at h2
      omega)
  rw [hbl] at HBY
  generalize (⟨(frms sl).toArray⟩ : ByteArray) = F at HWH HEQ
  obtain ⟨aS, cap, rfl⟩ := hS.slice
  obtain ⟨aW, capW, rfl⟩ : ∃ a c, vW = .slice a 0 c := hW.slice
  have HA := Lib.hid (O8.made w (.slice aS ls.length cap) (.slice aW 0 capW))
  have hsp : ((t.seals : Int) == 0) = false := by have := hmay.2.1; simp; omega
  clear hS hW hr hP hnw hk hlen hbl hcut hsc hall hby
  go_enter Tryz.func9, Tryz.ntmps9
  go_wp2_with fail
  refine (HR.out _ HA.out.b).mono ?_
  rintro e X ⟨rfl, hx⟩
  have HX := Lib.hid (HA.out.below hx)
  clear hx HA HR
  obtain ⟨b0, b1⟩ := HX.out.d.c2
  go_upto_region 5 with (first
    | (go_at_call 36; (with_reducible refine (HD0.out _ HX.out.b).mono ?_); rintro e Y ⟨o0, ho0, rfl, hy⟩; rw [rv_is]; have HO0 := Lib.hid ho0; have HY := Lib.hid (HX.out.below hy); have HYA := Lib.hid ((HX.out.below hy).below (al Y (.cells #[.slice none 0 0, .slice none 0 0, .int .i64 (sO o0), .int .i64 (hO o0), .int .i64 (uO o0), .slice none 0 0, .slice none 0 0] 27))); clear b0 b1 hy ho0; obtain ⟨b0, b1⟩ := HYA.out.d.c2)
    | (go_at_call 36; (with_reducible refine (HD1.out _ HYA.out.b).mono ?_); rintro e Z ⟨o1, ho1, rfl, hz⟩; rw [rv_is]; have HPC := Lib.hid (HPK.out o0 o1 HO0.out ho1); have HZ := Lib.hid (O9.made (o1 := o1) HY.out hz); clear b0 b1 hz ho1))
  generalize (Z.alloc _) = U at HZ ⊢
  generalize Z.heap.size = xb at HZ ⊢
  generalize Y.heap.size = jb at HZ ⊢
  clear HO0 HY HYA HX HD0 HD1 HPK
  obtain ⟨c0, c1, c2, c3, c4, c5, c6⟩ := HZ.out.j.c7
  obtain ⟨g0, g1, g2, g3, g4, g5, g6⟩ := HZ.out.j.f7
  obtain ⟨e0, e1, e2, e3, e4, e5, e6⟩ := HZ.out.x.c7
  rcases HPC.out with ⟨hlt, rfl⟩ | ⟨hlt, rfl⟩
  · have hlt' : ((sO o0 : Nat) : Int) < ((sO (some t) : Nat) : Int) := by omega
    have HP1 : Hid (O7 w (.slice aS ls.length cap) (.slice aW 0 capW) jb t (((((((U.setCell ⟨jb, 0, none⟩ (.slice none 0 0)).setCell ⟨jb, 1, none⟩ (.slice none 0 0)).setCell ⟨jb, 2, none⟩ (.int .i64 (sO (some t)))).setCell ⟨jb, 3, none⟩ (.int .i64 (hO (some t)))).setCell ⟨jb, 4, none⟩ (.int .i64 (uO (some t)))).setCell ⟨jb, 5, none⟩ (.slice none 0 0)).setCell ⟨jb, 6, none⟩ (.slice none 0 0))) := Lib.hid HZ.out.pick1
    go_upto_region 7 with fail
    clear c0 c1 c2 c3 c4 c5 c6 g0 g1 g2 g3 g4 g5 g6 e0 e1 e2 e3 e4 e5 e6 HPC hlt hlt' HZ
    generalize (World.setCell (World.setCell _ _ _) ⟨jb, 6, none⟩ _) = U1 at HP1 ⊢
    obtain ⟨b0, b1⟩ := HP1.out.o.d.c2
    obtain ⟨c0, c1, c2, c3, c4, c5, c6⟩ := HP1.out.j.c7
    have n1 : jb ≠ w.heap.size + 1 := by have := HP1.out.jl; omega
    have n2 : w.heap.size + 1 ≠ jb := by have := HP1.out.jl; omega
    have n3 : jb ≠ w.heap.size := by have := HP1.out.jl; omega
    have n4 : w.heap.size ≠ jb := by have := HP1.out.jl; omega
    go_wp2_with (first
      | (go_at_call 37; (with_reducible refine (HBY.out _ HP1.out.o.b).mono ?_); rintro e U2 ⟨rfl, h2⟩; have HP2 := Lib.hid (HP1.out.below h2); clear h2 b0 b1 c0 c1 c2 c3 c4 c5 c6 HBY)
      | (go_at_call 38; (with_reducible refine (HSC.out _).mono ?_); rintro e U3 ⟨vR, rfl, ho3, h3⟩; have HR3 := Lib.hid (row_of_own ho3); obtain ⟨aR, pR, rfl⟩ := HR3.out.1.slice; have HP3 := Lib.hid (HP2.out.below h3); have HS3 := Lib.hid (HP2.out.scan h3 HR3.out.1 HR3.out.2); obtain ⟨c0, c1, c2, c3, c4, c5, c6⟩ := HP3.out.j.c7; obtain ⟨g0, g1, g2, g3, g4, g5, g6⟩ := HP3.out.j.f7; clear ho3 h3 HSC)
      | (go_at_call 21; (with_reducible refine (HWH.out _ _ HS3.out.2.2.1).mono ?_); rintro e U4 ⟨rfl, h4⟩; have HO4 := Lib.hid (HS3.out.1.below h4); have HJ4 := Lib.hid (HS3.out.2.1.below h4); have HR4 := Lib.hid (HS3.out.2.2.1.below h4); clear h4 c0 c1 c2 c3 c4 c5 c6 g0 g1 g2 g3 g4 g5 g6; obtain ⟨b0, b1⟩ := HO4.out.d.c2; obtain ⟨c0, c1, c2, c3, c4, c5, c6⟩ := HJ4.out.c7; obtain ⟨g0, g1, g2, g3, g4, g5, g6⟩ := HJ4.out.f7; obtain ⟨f0, f1, f2, f3, f4, f5, f6, f7⟩ := HO4.out.r.f8; obtain ⟨r0, r1, r2, r3, r4, r5, r6, r7⟩ := HO4.out.r.c8)
      | fail)
    · rename_i hc
      rcases hK with ⟨rfl, h0, rfl⟩ | ⟨rfl, h0⟩
      · rw [HEQ.out.1 h0] at hc
        simp at hc
      · have HE := Lib.hid (HO4.out.no 6)
        obtain ⟨z0, z1, z2, z3, z4, z5, z6, z7⟩ := HE.out.1.c8
        exact bodyPost_ret (v := .agg #[.slice none 0 0, .slice none 0 0, .int .i64 0, .int .i64 0, .int .i64 0, .slice none 0 0, .slice none 0 0, .int .i64 6]) (by simp [results, Tryz.results9, go_sem, z0, z1, z2, z3, z4, z5, z6, z7]) rfl ⟨fun h => absurd h (by decide), fun _ => HE.out.2⟩
    · rename_i hc
      rcases hK with ⟨rfl, h0, rfl⟩ | ⟨rfl, h0⟩
      · have HE := Lib.hid (HO4.out.yes (t := t) HP3.out.jl HR4.out HS3.out.2.2.2)
        obtain ⟨z0, z1, z2, z3, z4, z5, z6, z7⟩ := HE.out.1.c8
        exact bodyPost_ret (v := .agg #[.slice aS ls.length cap, .slice aW 0 capW, .int .i64 t.seals, .int .i64 t.half, .int .i64 t.used, .slice none 0 0, .slice aR sl.length pR, .int .i64 0]) (by simp [results, Tryz.results9, go_sem, z0, z1, z2, z3, z4, z5, z6, z7]) rfl ⟨fun _ => HE.out.2, fun h => absurd h (by decide)⟩
      · exact absurd (HEQ.out.2 (Classical.byContradiction fun hne => by rw [Go.Proofs.YtlpkalfbcphkmaaGreat.Frame.bytes_no hne] at hc; simp at hc)) h0
  · have hlt' : ¬ ((sO (some t) : Nat) : Int) < ((sO o1 : Nat) : Int) := by omega
    have HP1 : Hid (O7 w (.slice aS ls.length cap) (.slice aW 0 capW) jb t U) := Lib.hid ⟨HZ.out.o, HZ.out.j, HZ.out.jl⟩
    go_upto_region 7 with fail
    clear c0 c1 c2 c3 c4 c5 c6 g0 g1 g2 g3 g4 g5 g6 e0 e1 e2 e3 e4 e5 e6 HPC hlt hlt' HZ
    obtain ⟨U1, rfl⟩ : ∃ U1, U1 = U := ⟨_, rfl⟩
    obtain ⟨b0, b1⟩ := HP1.out.o.d.c2
    obtain ⟨c0, c1, c2, c3, c4, c5, c6⟩ := HP1.out.j.c7
    have n1 : jb ≠ w.heap.size + 1 := by have := HP1.out.jl; omega
    have n2 : w.heap.size + 1 ≠ jb := by have := HP1.out.jl; omega
    have n3 : jb ≠ w.heap.size := by have := HP1.out.jl; omega
    have n4 : w.heap.size ≠ jb := by have := HP1.out.jl; omega
    go_wp2_with (first
      | (go_at_call 37; (with_reducible refine (HBY.out _ HP1.out.o.b).mono ?_); rintro e U2 ⟨rfl, h2⟩; have HP2 := Lib.hid (HP1.out.below h2); clear h2 b0 b1 c0 c1 c2 c3 c4 c5 c6 HBY)
      | (go_at_call 38; (with_reducible refine (HSC.out _).mono ?_); rintro e U3 ⟨vR, rfl, ho3, h3⟩; have HR3 := Lib.hid (row_of_own ho3); obtain ⟨aR, pR, rfl⟩ := HR3.out.1.slice; have HP3 := Lib.hid (HP2.out.below h3); have HS3 := Lib.hid (HP2.out.scan h3 HR3.out.1 HR3.out.2); obtain ⟨c0, c1, c2, c3, c4, c5, c6⟩ := HP3.out.j.c7; obtain ⟨g0, g1, g2, g3, g4, g5, g6⟩ := HP3.out.j.f7; clear ho3 h3 HSC)
      | (go_at_call 21; (with_reducible refine (HWH.out _ _ HS3.out.2.2.1).mono ?_); rintro e U4 ⟨rfl, h4⟩; have HO4 := Lib.hid (HS3.out.1.below h4); have HJ4 := Lib.hid (HS3.out.2.1.below h4); have HR4 := Lib.hid (HS3.out.2.2.1.below h4); clear h4 c0 c1 c2 c3 c4 c5 c6 g0 g1 g2 g3 g4 g5 g6; obtain ⟨b0, b1⟩ := HO4.out.d.c2; obtain ⟨c0, c1, c2, c3, c4, c5, c6⟩ := HJ4.out.c7; obtain ⟨g0, g1, g2, g3, g4, g5, g6⟩ := HJ4.out.f7; obtain ⟨f0, f1, f2, f3, f4, f5, f6, f7⟩ := HO4.out.r.f8; obtain ⟨r0, r1, r2, r3, r4, r5, r6, r7⟩ := HO4.out.r.c8)
      | fail)
    · rename_i hc
      rcases hK with ⟨rfl, h0, rfl⟩ | ⟨rfl, h0⟩
      · rw [HEQ.out.1 h0] at hc
        simp at hc
      · have HE := Lib.hid (HO4.out.no 6)
        obtain ⟨z0, z1, z2, z3, z4, z5, z6, z7⟩ := HE.out.1.c8
        exact bodyPost_ret (v := .agg #[.slice none 0 0, .slice none 0 0, .int .i64 0, .int .i64 0, .int .i64 0, .slice none 0 0, .slice none 0 0, .int .i64 6]) (by simp [results, Tryz.results9, go_sem, z0, z1, z2, z3, z4, z5, z6, z7]) rfl ⟨fun h => absurd h (by decide), fun _ => HE.out.2⟩
    · rename_i hc
      rcases hK with ⟨rfl, h0, rfl⟩ | ⟨rfl, h0⟩
      · have HE := Lib.hid (HO4.out.yes (t := t) HP3.out.jl HR4.out HS3.out.2.2.2)
        obtain ⟨z0, z1, z2, z3, z4, z5, z6, z7⟩ := HE.out.1.c8
        exact bodyPost_ret (v := .agg #[.slice aS ls.length cap, .slice aW 0 capW, .int .i64 t.seals, .int .i64 t.half, .int .i64 t.used, .slice none 0 0, .slice aR sl.length pR, .int .i64 0]) (by simp [results, Tryz.results9, go_sem, z0, z1, z2, z3, z4, z5, z6, z7]) rfl ⟨fun _ => HE.out.2, fun h => absurd h (by decide)⟩
      · exact absurd (HEQ.out.2 (Classical.byContradiction fun hne => by rw [Go.Proofs.YtlpkalfbcphkmaaGreat.Frame.bytes_no hne] at hc; simp at hc)) h0
theorem refOpen_yes {vS vW : Value} {ls : List ByteArray} {w : World} (hS : SRow w vS ls) (hW : WRow w vW []) {t : Told} {l : List ByteArray} (h : Opens ls t l) : Calls Tryz.prog 9 #[.agg #[vS, vW]] w (YesT vS vW t l w) :=
  (refOpen_head hS hW h.1 h.2.1 h.2.2.1 (.inl ⟨rfl, h.2.2.2.1, h.2.2.2.2⟩)).mono fun _ _ h => h.1 rfl
theorem refOpen_no {vS vW : Value} {ls : List ByteArray} {ws : List (Int × ByteArray)} {w : World} (hS : SRow w vS ls) (hW : WRow w vW ws) (hr : smallP ls ws) {k : Int} (h : Fails ls ws k) : Calls Tryz.prog 9 #[.agg #[vS, vW]] w (NoT k w) := by
  rcases h with ⟨rfl, h⟩ | ⟨rfl, h1, h2, rfl, h3⟩ | ⟨rfl, h1, h2, rfl, t, h3, h4⟩
  · exact refOpen_arg hS hW hr h
  · exact refOpen_none hS hW h1 h2 h3
  · exact (refOpen_head hS hW h1 h2 h3 (.inr ⟨rfl, rfl, h4⟩)).mono fun _ _ h => h.2 rfl
end Go.Proofs.YtlpkalfbcphkmaaGreat.Disk.Jn

/-
  Contracts of the reference of journal: flush, Second, Sealed.
-/
namespace Go.Proofs.YtlpkalfbcphkmaaGreat.Disk.Jn
open Go.ChangeShapes Go.WideShapes Go.ChangeAt Go.RowKit Go.Lib
open Go.Proofs.YtlpkalfbcphkmaaGreat.Frame (frm frms)

/-- A disk that a call returned, stored into the caller's result. -/
theorem disk_end {w W : World} {a : Option Addr} {n c : Nat} {vW : Value} {L : List ByteArray} {ws : List (Int × ByteArray)} (hq : Box (w.heap.size + 1) [.slice none 0 0, .slice none 0 0] W) (hb : Below w.heap.size w W) (hS : SRow W (.slice a n c) L)
    (hW : WRow ((W.setCell ⟨w.heap.size + 1, 0, none⟩ (.slice a n c)).setCell ⟨w.heap.size + 1, 1, none⟩ vW) vW ws) :
    Box (w.heap.size + 1) [.slice a n c, vW] ((W.setCell ⟨w.heap.size + 1, 0, none⟩ (.slice a n c)).setCell ⟨w.heap.size + 1, 1, none⟩ vW) ∧
    DiskD L ws w (.returned (.agg #[.slice a n c, vW])) ((W.setCell ⟨w.heap.size + 1, 0, none⟩ (.slice a n c)).setCell ⟨w.heap.size + 1, 1, none⟩ vW) :=
  ⟨hq.st2 _ _, _, _, rfl, srow_apart (srow_apart hS hq.c2.1 _) ((hq.one (i := 0) (by simp) (.slice a n c)).c2).1 _, hW, below_st2 hb (by omega) _ _⟩

set_option maxHeartbeats 1000000 in
set_option maxRecDepth 100000 in
theorem refFlush_any {vS vW : Value} {ls : List ByteArray} {ws : List (Int × ByteArray)} {w : World} (hS : SRow w vS ls) (hW : WRow w vW ws) (hb : rightB ls ws = true) : Calls Tryz.prog 50 #[.agg #[vS, vW]] w (DiskD (flushL ls ws) [] w) := by
  have HC := Lib.hid (fun W (h : Below w.heap.size w W) => refCrash_any (hS.below h) (hW.below h) hb 18446744073709551615 (by omega) 0)
  obtain ⟨aS, cap, rfl⟩ := hS.slice
  obtain ⟨aW, capW, rfl⟩ := hW.slice
  obtain ⟨hx, hy⟩ := Box.made2 w [.slice aS ls.length cap, .slice aW ws.length capW] [.slice none 0 0, .slice none 0 0] 25 25
  have HA := Lib.hid (below_trans (al w (.cells #[.slice aS ls.length cap, .slice aW ws.length capW] 25)) (al (w.alloc (.cells #[.slice aS ls.length cap, .slice aW ws.length capW] 25)) (.cells #[.slice none 0 0, .slice none 0 0] 25)))
  have HY := Lib.hid hy
  clear hS hW hb hx hy
  unfold flushL
  generalize crashL 18446744073709551615 ls ws 0 = L at HC ⊢
  go_enter Tryz.func50, Tryz.ntmps50
  go_wp2_with fail
  refine (HC.out _ HA.out).mono ?_
  rintro e X ⟨vS', vW', rfl, hS', hW', hx⟩
  obtain ⟨a1, p1, rfl⟩ := hS'.slice
  obtain ⟨a2, p2, rfl⟩ := hW'.slice
  have HQ := Lib.hid (HY.out.below hx)
  have HE := Lib.hid (disk_end (vW := .slice a2 0 p2) HQ.out (below_trans HA.out hx) hS' (wrow_apart (wrow_apart hW' _) _))
  clear hS' hW' hx
  obtain ⟨r0, r1⟩ := HQ.out.c2
  obtain ⟨g0, g1⟩ := HQ.out.f2
  go_wp2_with fail
  obtain ⟨z0, z1⟩ := HE.out.1.c2
  exact bodyPost_ret (v := .agg #[.slice a1 L.length p1, .slice a2 0 p2]) (by simp [results, Tryz.results50, go_sem, z0, z1]) rfl HE.out.2

set_option maxHeartbeats 4000000 in
set_option maxRecDepth 100000 in
theorem refSecond_any {vS vW vG vR : Value} {ls : List ByteArray} {w : World} (hS : SRow w vS ls) (hW : WRow w vW []) {t : Told} {l : List ByteArray} (ho : Opens ls t l) {half fr : Nat} {S : ByteArray} {l' : List ByteArray} (hse : Seals ls t half fr S.data.toList l') (h u : Int) :
    Calls Tryz.prog 26 #[.agg #[vS, vW, .int .i64 t.seals, .int .i64 h, .int .i64 u, vG, vR], .int .i64 half, .int .i64 fr, .string S] w (DiskD (flushed ls t half fr S.data.toList) (headW t half fr S.size) w) := by
  have hl := opens_len ho
  have h8 := ho.2.1
  have hfit := hse.fits
  have hshort := hse.short
  rw [bytes_size] at hfit hshort
  have hlt := hse.lt
  have hroom : roomN ls.length ≤ 32000 := by unfold roomN hsN; omega
  have hfr := hfit.room
  have hR : rightB ls (firstW ls ((t.seals + 1) % 2) half fr S.data.toList) = true := first_right ho.1 hse.fits hse.short (by omega)
  have HFI := Lib.hid (fun W (hb : Below w.heap.size w W) => refFirst_any (vG := vG) (vR := vR) (hS.below hb) (hW.below hb) (secs_of ho.1) (by omega) hfit hshort (s := t.seals) (by omega) h u)
  have HFL := Lib.hid (fun (v1 : Value) (W : World) (hb : Below w.heap.size w W) (h1 : WRow W v1 (firstW ls ((t.seals + 1) % 2) half fr S.data.toList)) => (show Calls Tryz.prog 50 #[.agg #[vS, v1]] W (DiskD (flushed ls t half fr S.data.toList) [] W) from refFlush_any (hS.below hb) h1 hR))
  have HH := Lib.hid (fun W => (show Calls Tryz.prog 15 #[.int .i64 (IntKind.i64.wrap ((t.seals : Int) + 1)), .int .i64 half, .int .i64 (IntKind.i64.wrap ((fr : Int) + (S.size : Int)))] W (TextB (headB (nextT t half fr S.size)) W) from by
    rw [IntWalk.i64_in _ (by omega), IntWalk.i64_in _ (by omega)]
    exact refHead_any (nextT t half fr S.size) hfit.h1 (by show t.seals + 1 ≤ _; omega) (by show fr + S.size ≤ _; omega) W))
  obtain ⟨aS, cap, rfl⟩ := hS.slice
  obtain ⟨aW, capW, rfl⟩ : ∃ a c, vW = .slice a 0 c := hW.slice
  obtain ⟨hx, hy⟩ := Box.made2 w [.slice aS ls.length cap, .slice aW 0 capW, .int .i64 t.seals, .int .i64 h, .int .i64 u, vG, vR] [.slice none 0 0, .slice none 0 0] 27 25
  have HA := Lib.hid (below_trans (al w (.cells #[.slice aS ls.length cap, .slice aW 0 capW, .int .i64 t.seals, .int .i64 h, .int .i64 u, vG, vR] 27)) (al (w.alloc (.cells #[.slice aS ls.length cap, .slice aW 0 capW, .int .i64 t.seals, .int .i64 h, .int .i64 u, vG, vR] 27)) (.cells #[.slice none 0 0, .slice none 0 0] 25)))
  have HX := Lib.hid hx
  have HY := Lib.hid hy
  clear hS hW hx hy ho hse hR
  go_enter Tryz.func26, Tryz.ntmps26
  go_wp2_with (first
    | (go_at_call 25; (with_reducible refine (HFI.out _ HA.out).mono ?_); rintro e U1 ⟨v1, rfl, hr1, hf1, hb1⟩; have HU1 := Lib.hid (below_trans HA.out hb1); have HR1 := Lib.hid hr1; have HX1 := Lib.hid (HX.out.below hb1); have HY1 := Lib.hid (HY.out.below hb1); obtain ⟨a1, p1, rfl⟩ := hr1.slice; clear hr1 hf1 hb1)
    | (go_at_call 50; (with_reducible refine (HFL.out _ _ HU1.out HR1.out).mono ?_); rintro e U2 ⟨v2, v3, rfl, hS2, hW2, hb2⟩; have HU2 := Lib.hid (below_trans HU1.out hb2); have HX2 := Lib.hid (HX1.out.below hb2); have HY2 := Lib.hid (HY1.out.below hb2); have HS2 := Lib.hid hS2; have HW2 := Lib.hid hW2; obtain ⟨a2, p2, rfl⟩ := hS2.slice; obtain ⟨a3, p3, rfl⟩ : ∃ a c, v3 = .slice a 0 c := hW2.slice; clear hS2 hW2 hb2)
    | fail)
  have HD3 := Lib.hid (Box.made U2 [.slice a2 (flushed ls t half fr S.data.toList).length p2, .slice a3 0 p3] 25)
  have hb3 := al U2 (.cells #[.slice a2 (flushed ls t half fr S.data.toList).length p2, .slice a3 0 p3] 25)
  have HU3 := Lib.hid (below_trans HU2.out hb3)
  have HX3 := Lib.hid (HX2.out.below hb3)
  have HY3 := Lib.hid (HY2.out.below hb3)
  have HS3 := Lib.hid (HS2.out.below hb3)
  have HW3 := Lib.hid (HW2.out.below hb3)
  have hdb : w.heap.size + 1 < U2.heap.size := HY2.out.1
  change Hid (Box U2.heap.size _ (U2.alloc (.cells #[.slice a2 (flushed ls t half fr S.data.toList).length p2, .slice a3 0 p3] 25))) at HD3
  clear hb3 HU2 HX2 HY2 HS2 HW2 HU1 HX1 HY1 HR1 HFI HFL HA HX HY
  have HQQ : Hid ([((IntKind.i64.wrap ((t.seals : Int) + 1)).tmod 2, headB (nextT t half fr S.size))] = headW t half fr S.size) := Lib.hid (by
    unfold headW
    rw [IntWalk.i64_in _ (by omega), Int.tmod_eq_emod_of_nonneg (by omega), show ((t.seals : Int) + 1) % 2 = (((t.seals + 1) % 2 : Nat) : Int) by omega])
  generalize flushed ls t half fr S.data.toList = L at *
  generalize U2.alloc _ = U3 at HD3 HU3 HX3 HY3 HS3 HW3 ⊢
  generalize U2.heap.size = db at HD3 hdb ⊢
  have HPT := Lib.hid (fun W (hb : Below U3.heap.size U3 W) => refPut_any (a := a2) (n := L.length) (cap := p2) (HW3.out.below hb) (by simp) ((IntKind.i64.wrap ((t.seals : Int) + 1)).tmod 2) (headB (nextT t half fr S.size)))
  generalize headB (nextT t half fr S.size) = HB at HH HPT HQQ
  have HSF : Hid (∀ w', Below U3.heap.size U3 w' → w'.cell? ⟨w.heap.size, 2, none⟩ = some (.int .i64 t.seals) ∧ w'.cell? ⟨db, 0, none⟩ = some (.slice a2 L.length p2) ∧ w'.cell? ⟨db, 1, none⟩ = some (.slice a3 0 p3)) := Lib.hid (fun w' hb => by
    obtain ⟨k0, k1, k2, k3, k4, k5, k6⟩ := (HX3.out.below hb).c7
    exact ⟨k2, (HD3.out.below hb).c2⟩)
  have HSK : Hid (∀ w', Below U3.heap.size U3 w' → ∀ u0 u1 : Value, ((w'.setCell ⟨w.heap.size + 1, 0, none⟩ u0).setCell ⟨w.heap.size + 1, 1, none⟩ u1).cell? ⟨w.heap.size, 2, none⟩ = some (.int .i64 t.seals) ∧ ((w'.setCell ⟨w.heap.size + 1, 0, none⟩ u0).setCell ⟨w.heap.size + 1, 1, none⟩ u1).cell? ⟨db, 0, none⟩ = some (.slice a2 L.length p2) ∧ ((w'.setCell ⟨w.heap.size + 1, 0, none⟩ u0).setCell ⟨w.heap.size + 1, 1, none⟩ u1).cell? ⟨db, 1, none⟩ = some (.slice a3 0 p3)) := Lib.hid (fun w' hb u0 u1 => by
    obtain ⟨k0, k1, k2, k3, k4, k5, k6⟩ := (((HX3.out.below hb).other (g := w.heap.size + 1) (i := 0) (by omega) u0).other (g := w.heap.size + 1) (i := 1) (by omega) u1).c7
    exact ⟨k2, (((HD3.out.below hb).other (g := w.heap.size + 1) (i := 0) (by omega) u0).other (g := w.heap.size + 1) (i := 1) (by omega) u1).c2⟩)
  have HS0 := Lib.hid (HSF.out _ (Below.refl _ _))
  obtain ⟨j2, d0, d1⟩ := HS0.out
  go_region_held3 (fun w' => w'.cell? ⟨w.heap.size, 2, none⟩ = some (.int .i64 t.seals) ∧ w'.cell? ⟨db, 0, none⟩ = some (.slice a2 L.length p2) ∧ w'.cell? ⟨db, 1, none⟩ = some (.slice a3 0 p3))
    (first | with_reducible exact HSF.out _ (dr U3) | with_reducible exact HSF.out _ HZ4.out | with_reducible exact HSF.out _ HZ5.out | with_reducible exact HSK.out _ HZ5.out _ _ | fail)
    (first
      | (go_at_call 15; (with_reducible refine (HH.out _).mono ?_); rintro e U4 ⟨rfl, hz⟩; have HZ4 := Lib.hid (below_trans (dr U3) hz); clear hz)
      | (go_at_call 58; (with_reducible refine (HPT.out _ HZ4.out).mono ?_); rintro e U5 ⟨v5, rfl, hr5, hf5, hb5⟩; rw [List.nil_append, HQQ.out] at hr5; have HZ5 := Lib.hid (below_trans HZ4.out hb5); have HR5 := Lib.hid hr5; have HF5 := Lib.hid (hf5.mono (Nat.le_trans HY3.out.1 HZ4.out.size)); obtain ⟨a5, p5, rfl⟩ := hr5.slice; clear hr5 hf5 hb5; obtain ⟨r0, r1⟩ := (HY3.out.below HZ5.out).c2; obtain ⟨g0, g1⟩ := (HY3.out.below HZ5.out).f2)
      | fail)
  have HE := Lib.hid (disk_end (vW := .slice a5 (headW t half fr S.size).length p5) (HY3.out.below HZ5.out) (below_trans HU3.out HZ5.out) (HS3.out.below HZ5.out) ((HR5.out.stored (HF5.out)).stored HF5.out))
  go_wp2_with fail
  obtain ⟨z0, z1⟩ := HE.out.1.c2
  exact bodyPost_ret (v := .agg #[.slice a2 L.length p2, .slice a5 (headW t half fr S.size).length p5]) (by simp [results, Tryz.results26, go_sem, z0, z1]) rfl HE.out.2

theorem srow7 {W : World} {b : Nat} {v : Value} {l : List ByteArray} {a : Option Addr} {n c : Nat} (h : SRow W v l) (hb : Box b z7 W) (u1 u2 u3 u4 u5 u6 : Value) : SRow (s7 W b (.slice a n c) u1 u2 u3 u4 u5 u6) v l := by
  have c0 := hb.c7.1
  have h0 := srow_apart (i := 0) h c0 (.slice a n c)
  have b0 := hb.one (i := 0) (by simp [z7]) (.slice a n c)
  have h1 := srow_apart (i := 1) h0 b0.c7.1 u1
  have b1 := b0.one (i := 1) (by simp [z7]) u1
  have h2 := srow_apart (i := 2) h1 b1.c7.1 u2
  have b2 := b1.one (i := 2) (by simp [z7]) u2
  have h3 := srow_apart (i := 3) h2 b2.c7.1 u3
  have b3 := b2.one (i := 3) (by simp [z7]) u3
  have h4 := srow_apart (i := 4) h3 b3.c7.1 u4
  have b4 := b3.one (i := 4) (by simp [z7]) u4
  have h5 := srow_apart (i := 5) h4 b4.c7.1 u5
  have b5 := b4.one (i := 5) (by simp [z7]) u5
  exact srow_apart (i := 6) h5 b5.c7.1 u6
theorem wrow7 {W : World} {b : Nat} {v : Value} (h : WRow W v []) (u0 u1 u2 u3 u4 u5 u6 : Value) : WRow (s7 W b u0 u1 u2 u3 u4 u5 u6) v [] :=
  wrow_apart (wrow_apart (wrow_apart (wrow_apart (wrow_apart (wrow_apart (wrow_apart h _) _) _) _) _) _) _
/-- A journal is returned: the one behind sealing. -/
def SealD (L : List ByteArray) (t : Told) (l : List ByteArray) (w : World) (e : Ending) (w' : World) : Prop := ∃ vS vW vR, e = .returned (jv vS vW t.seals t.half t.used (.slice none 0 0) vR) ∧ JRow w' vS vW (.slice none 0 0) vR ⟨L, [], t.seals, t.half, t.used, [], l⟩ ∧ Below w.heap.size w w'
theorem seal_end {w W : World} {a a2 : Option Addr} {n c n2 c2 : Nat} {vW : Value} {L l : List ByteArray} {t : Told} (hq : Box (w.heap.size + 1) z7 W) (hb : Below w.heap.size w W) (hS : SRow W (.slice a n c) L) (hW : WRow W vW []) (hR : SRow W (.slice a2 n2 c2) l) :
    Box (w.heap.size + 1) [.slice a n c, vW, .int .i64 t.seals, .int .i64 t.half, .int .i64 t.used, .slice none 0 0, .slice a2 n2 c2] (s7 W (w.heap.size + 1) (.slice a n c) vW (.int .i64 t.seals) (.int .i64 t.half) (.int .i64 t.used) (.slice none 0 0) (.slice a2 n2 c2)) ∧
    SealD L t l w (.returned (jv (.slice a n c) vW t.seals t.half t.used (.slice none 0 0) (.slice a2 n2 c2))) (s7 W (w.heap.size + 1) (.slice a n c) vW (.int .i64 t.seals) (.int .i64 t.half) (.int .i64 t.used) (.slice none 0 0) (.slice a2 n2 c2)) :=
  ⟨hq.st7 _ _ _ _ _ _ _, _, _, _, rfl, ⟨srow7 hS hq _ _ _ _ _ _, wrow7 hW _ _ _ _ _ _ _, .inl ⟨rfl, rfl⟩, srow7 hR hq _ _ _ _ _ _⟩, below_st7 hb (by omega) _ _ _ _ _ _ _⟩
theorem field_J (v0 v1 v2 v3 v4 v5 v6 v7 : Value) (w : World) : (Instr.field 34 (.agg #[v0, v1, v2, v3, v4, v5, v6, v7]) 0).run Tryz.prog w = .ok (.agg #[v0, v1, v2, v3, v4, v5, v6]) w := by kernel_rfl
set_option maxHeartbeats 4000000 in
set_option maxRecDepth 100000 in
theorem refSealed_any {vS vW vG vR : Value} {ls : List ByteArray} {w : World} (hS : SRow w vS ls) (hW : WRow w vW []) {t : Told} {l : List ByteArray} (ho : Opens ls t l) {half fr : Nat} {S : ByteArray} {l' : List ByteArray} (hse : Seals ls t half fr S.data.toList l') (h u : Int) :
    Calls Tryz.prog 20 #[.agg #[vS, vW, .int .i64 t.seals, .int .i64 h, .int .i64 u, vG, vR], .int .i64 half, .int .i64 fr, .string S] w (SealD (sealedL ls t half fr S.data.toList) (nextT t half fr S.size) l' w) := by
  have h8 := ho.2.1
  have hso := sealed_opens ho hse
  have hfo := flushed_opens ho hse
  have hR : rightB (flushed ls t half fr S.data.toList) (headW t half fr S.size) = true := head_right hfo.1 (by rw [flushed_len]; exact h8)
  rw [bytes_size] at hso
  have HSE := Lib.hid (fun W (hb : Below w.heap.size w W) => refSecond_any (vG := vG) (vR := vR) (hS.below hb) (hW.below hb) ho hse h u)
  have HFL := Lib.hid (fun (v0 v1 : Value) (W : World) (h0 : SRow W v0 (flushed ls t half fr S.data.toList)) (h1 : WRow W v1 (headW t half fr S.size)) => refFlush_any h0 h1 hR)
  have HOP := Lib.hid (fun (v0 v1 : Value) (W : World) (h0 : SRow W v0 (sealedL ls t half fr S.data.toList)) (h1 : WRow W v1 []) => refOpen_yes h0 h1 hso)
  have e1 : flushL (flushed ls t half fr S.data.toList) (headW t half fr S.size) = sealedL ls t half fr S.data.toList := by unfold sealedL; rw [bytes_size]
  rw [e1] at HFL
  generalize sealedL ls t half fr S.data.toList = L at *
  generalize flushed ls t half fr S.data.toList = F at *
  generalize headW t half fr S.size = hw at *
  generalize nextT t half fr S.size = t2 at *
  obtain ⟨aS, cap, rfl⟩ := hS.slice
  obtain ⟨aW, capW, rfl⟩ : ∃ a c, vW = .slice a 0 c := hW.slice
  obtain ⟨hx, hy⟩ := Box.made2 w [.slice aS ls.length cap, .slice aW 0 capW, .int .i64 t.seals, .int .i64 h, .int .i64 u, vG, vR] z7 27 27
  have HA := Lib.hid (below_trans (al w (.cells #[.slice aS ls.length cap, .slice aW 0 capW, .int .i64 t.seals, .int .i64 h, .int .i64 u, vG, vR] 27)) (al (w.alloc (.cells #[.slice aS ls.length cap, .slice aW 0 capW, .int .i64 t.seals, .int .i64 h, .int .i64 u, vG, vR] 27)) (.cells #[.slice none 0 0, .slice none 0 0, .int .i64 0, .int .i64 0, .int .i64 0, .slice none 0 0, .slice none 0 0] 27)))
  have HY := Lib.hid hy
  clear hS hW hx hy ho hse hR hso hfo e1
  go_enter Tryz.func20, Tryz.ntmps20
  go_wp2_with (first
    | (go_at_call 26; (with_reducible refine (HSE.out _ HA.out).mono ?_); rintro e U1 ⟨v1, v2, rfl, hS1, hW1, hb1⟩; have HU1 := Lib.hid (below_trans HA.out hb1); have HY1 := Lib.hid (Box.below HY.out hb1); have HS1 := Lib.hid hS1; have HW1 := Lib.hid hW1; obtain ⟨a1, p1, rfl⟩ := hS1.slice; obtain ⟨a2, p2, rfl⟩ := hW1.slice; clear hS1 hW1 hb1)
    | (go_at_call 50; (with_reducible refine (HFL.out _ _ _ HS1.out HW1.out).mono ?_); rintro e U2 ⟨v1, v2, rfl, hS2, hW2, hb2⟩; have HU2 := Lib.hid (below_trans HU1.out hb2); have HY2 := Lib.hid (Box.below HY1.out hb2); have HS2 := Lib.hid hS2; have HW2 := Lib.hid hW2; obtain ⟨a3, p3, rfl⟩ := hS2.slice; obtain ⟨a4, p4, rfl⟩ : ∃ a c, v2 = .slice a 0 c := hW2.slice; clear hS2 hW2 hb2)
    | (go_at_call 9; (with_reducible refine (HOP.out _ _ _ HS2.out HW2.out).mono ?_); rintro e U3 ⟨v5, rfl, hR3, hb3⟩; have HU3 := Lib.hid (below_trans HU2.out hb3); have HY3 := Lib.hid (Box.below HY2.out hb3); have HS3 := Lib.hid (HS2.out.below hb3); have HW3 := Lib.hid (HW2.out.below hb3); have HR3 := Lib.hid hR3; obtain ⟨a5, p5, rfl⟩ := hR3.slice; clear hR3 hb3; unfold tv8; obtain ⟨r0, r1, r2, r3, r4, r5, r6⟩ := HY3.out.c7; obtain ⟨g0, g1, g2, g3, g4, g5, g6⟩ := HY3.out.f7)
    | fail)
  rw [field_J]
  have HE := Lib.hid (seal_end (t := t2) HY3.out HU3.out HS3.out HW3.out HR3.out)
  go_wp2_with fail
  obtain ⟨z0, z1, z2, z3, z4, z5, z6⟩ := HE.out.1.c7
  exact bodyPost_ret (v := .agg #[.slice a3 L.length p3, .slice a4 0 p4, .int .i64 t2.seals, .int .i64 t2.half, .int .i64 t2.used, .slice none 0 0, .slice a5 l'.length p5]) (by simp [results, Tryz.results20, go_sem, z0, z1, z2, z3, z4, z5, z6]) rfl HE.out.2
end Go.Proofs.YtlpkalfbcphkmaaGreat.Disk.Jn

/-
  Contract of the reference of journal: Right, which journals may be.
-/
namespace Go.Proofs.YtlpkalfbcphkmaaGreat.Disk.Jn
open Go.ChangeShapes Go.WideShapes Go.ChangeAt Go.RowKit Go.Lib
open Go.Proofs.YtlpkalfbcphkmaaGreat.Frame (frm frms)

set_option maxHeartbeats 2000000 in
set_option maxRecDepth 100000 in
theorem refRight_fail {vS vW vG vR : Value} {J : JN} {w : World} (hJ : JRow w vS vW vG vR J) (hz : JSmall J) {k : Int} (hf : Fails J.ls J.ws k) : Calls Tryz.prog 12 #[jv vS vW J.s J.h J.u vG vR] w (BoolB false w) := by
  have hk : (k == 0) = false := by rcases hf with ⟨rfl, _⟩ | ⟨rfl, _⟩ | ⟨rfl, _⟩ <;> rfl
  have HO := Lib.hid (fun W (h : Below w.heap.size w W) => refOpen_no (hJ.rS.below h) (hJ.rW.below h) hz.d hf)
  obtain ⟨aS, cap, rfl⟩ := hJ.rS.slice
  obtain ⟨aW, capW, rfl⟩ := hJ.rW.slice
  obtain ⟨aG, capG, rfl⟩ := hJ.rG.slice
  obtain ⟨aR, capR, rfl⟩ := hJ.rR.slice
  clear hJ hz hf
  unfold jv
  go_enter Tryz.func12, Tryz.ntmps12
  go_wp2_with fail
  refine (HO.out _ (al _ _)).mono ?_
  rintro e X ⟨rfl, hx⟩
  have HE := Lib.hid (below_trans (below_trans (al w _) hx) (al X (.cells #[.slice none 0 0, .slice none 0 0, .int .i64 0, .int .i64 0, .int .i64 0, .slice none 0 0, .slice none 0 0, .int .i64 k] 34)))
  clear hx HO
  unfold tv8
  go_wp2_with fail
  go_ret
  exact ⟨rfl, HE.out⟩
set_option maxHeartbeats 4000000 in
set_option maxRecDepth 100000 in
theorem refRight_open {vS vW vG vR : Value} {J : JN} {w : World} (hJ : JRow w vS vW vG vR J) (hz : JSmall J) (hg : J.g.length ≤ 100) (hw : J.ws = []) {t : Told} {l : List ByteArray} (ho : Opens J.ls t l) {b : Bool}
    (hb : b = true ↔ (J.s = t.seals ∧ J.h = t.half ∧ J.u = t.used ∧ l = J.l ∧ waitE J.ls.length t.used J.g = 0)) : Calls Tryz.prog 12 #[jv vS vW J.s J.h J.u vG vR] w (BoolB b w) := by
  obtain ⟨ls, ws, s, h, u, g, lj⟩ := J
  dsimp only at hw ho hb hg ⊢
  subst hw
  have h8 := ho.2.1
  have hn : ls.length ≤ 1000 := by have := opens_len ho; omega
  have hl1 := hz.l1
  have hl2 : l.length ≤ 1000000 := by have := opens_recs ho; omega
  have hrm : t.used ≤ 100000 := by have := (opens_may ho).2.2.2; have := opens_recs ho; omega
  have HO := Lib.hid (fun W (h : Below w.heap.size w W) => refOpen_yes (hJ.rS.below h) (hJ.rW.below h) ho)
  have HRJ := Lib.hid hJ.rR
  have HSJ := Lib.hid hJ.rS
  have HGJ := Lib.hid hJ.rG
  obtain ⟨aS, cap, rfl⟩ := hJ.rS.slice
  obtain ⟨aW, capW, rfl⟩ := hJ.rW.slice
  obtain ⟨aG, capG, rfl⟩ := hJ.rG.slice
  obtain ⟨aR, capR, rfl⟩ := hJ.rR.slice
  dsimp only at HO HRJ HSJ HGJ hl1 ⊢
  rw [List.length_nil] at HO
  have HA := Lib.hid (Box.made w [.slice aS ls.length cap, .slice aW 0 capW, .int .i64 s, .int .i64 h, .int .i64 u, .slice aG g.length capG, .slice aR lj.length capR] 27)
  have HBB := Lib.hid hb
  clear hJ hz ho hb
  unfold jv
  go_enter Tryz.func12, Tryz.ntmps12
  go_wp2_with fail
  refine (HO.out _ (al _ _)).mono ?_
  rintro e X ⟨vR', rfl, hR', hx⟩
  have HX := Lib.hid (below_trans (al w _) hx)
  have HAX := Lib.hid (Box.below HA.out hx)
  have HRX := Lib.hid hR'
  obtain ⟨a4, p4, rfl⟩ := hR'.slice
  clear hR' hx HA HO
  unfold tv8
  have HO2 := Lib.hid (Box.made X [.slice aS ls.length cap, .slice aW 0 capW, .int .i64 t.seals, .int .i64 t.half, .int .i64 t.used, .slice none 0 0, .slice a4 l.length p4, .int .i64 0] 34)
  have HBY := Lib.hid (below_trans HX.out (al X (.cells #[.slice aS ls.length cap, .slice aW 0 capW, .int .i64 t.seals, .int .i64 t.half, .int .i64 t.used, .slice none 0 0, .slice a4 l.length p4, .int .i64 0] 34)))
  have HAY := Lib.hid (HAX.out.below (al X (.cells #[.slice aS ls.length cap, .slice aW 0 capW, .int .i64 t.seals, .int .i64 t.half, .int .i64 t.used, .slice none 0 0, .slice a4 l.length p4, .int .i64 0] 34)))
  have HRY := Lib.hid (HRX.out.below (al X (.cells #[.slice aS ls.length cap, .slice aW 0 capW, .int .i64 t.seals, .int .i64 t.half, .int .i64 t.used, .slice none 0 0, .slice a4 l.length p4, .int .i64 0] 34)))
  go_upto_region 2 with (fail)
  change Hid (Box X.heap.size _ (X.alloc (.cells #[.slice aS ls.length cap, .slice aW 0 capW, .int .i64 t.seals, .int .i64 t.half, .int .i64 t.used, .slice none 0 0, .slice a4 l.length p4, .int .i64 0] 34))) at HO2
  generalize (X.alloc (.cells #[.slice aS ls.length cap, .slice aW 0 capW, .int .i64 t.seals, .int .i64 t.half, .int .i64 t.used, .slice none 0 0, .slice a4 l.length p4, .int .i64 0] 34)) = Y at HO2 HBY HAY HRY ⊢
  clear HAX HRX HX
  generalize X.heap.size = ob at HO2 ⊢
  obtain ⟨c0, c1, c2, c3, c4, c5, c6⟩ := HAY.out.c7
  obtain ⟨o0, o1, o2, o3, o4, o5, o6, o7⟩ := HO2.out.c8
  by_cases hs : s = t.seals
  case neg =>
    have hne : ((t.seals : Int) == s) = false := by simp; omega
    have HN : Hid (b = false) := by
      unfold Hid
      rw [Bool.eq_false_iff]
      exact fun h => hs (HBB.out.1 h).1
    clear hs
    go_wp2_with fail
    go_ret
    exact ⟨ret_bool HN.out.symm, HBY.out⟩
  subst hs
  by_cases hh : h = t.half
  case neg =>
    have hne : ((t.half : Int) == h) = false := by simp; omega
    have HN : Hid (b = false) := by
      unfold Hid
      rw [Bool.eq_false_iff]
      exact fun h => hh (HBB.out.1 h).2.1
    clear hh
    go_wp2_with fail
    go_ret
    exact ⟨ret_bool HN.out.symm, HBY.out⟩
  subst hh
  by_cases hu : u = t.used
  case neg =>
    have hne : ((t.used : Int) == u) = false := by simp; omega
    have HN : Hid (b = false) := by
      unfold Hid
      rw [Bool.eq_false_iff]
      exact fun h => hu (HBB.out.1 h).2.2.1
    clear hu
    go_wp2_with fail
    go_ret
    exact ⟨ret_bool HN.out.symm, HBY.out⟩
  subst hu
  have HEQ := Lib.hid (SameB_any HRY.out (HRJ.out.below HBY.out) hl2 (by omega))
  by_cases hl : l = lj
  case neg =>
    rw [decide_eq_false hl] at HEQ
    have HN : Hid (b = false) := by
      unfold Hid
      rw [Bool.eq_false_iff]
      exact fun h => hl (HBB.out.1 h).2.2.2.1
    clear hl
    go_wp2_with fail
    refine HEQ.out.mono ?_
    rintro e Z ⟨rfl, hz⟩
    have HZ := Lib.hid (below_trans HBY.out hz)
    clear hz
    go_wp2_with fail
    go_ret
    exact ⟨ret_bool HN.out.symm, HZ.out⟩
  rw [decide_eq_true hl] at HEQ
  have HN : Hid (b = decide (waitE ls.length t.used g = 0)) := by
    unfold Hid
    rw [Bool.eq_iff_iff, decide_eq_true_eq, HBB.out]
    exact ⟨fun h => h.2.2.2.2, fun h => ⟨rfl, rfl, rfl, hl, h⟩⟩
  clear hl
  go_wp2_with fail
  refine HEQ.out.mono ?_
  rintro e Z ⟨rfl, hz⟩
  have HZ := Lib.hid (below_trans HBY.out hz)
  have HAZ := Lib.hid (HAY.out.below hz)
  clear hz c0 c1 c2 c3 c4 c5 c6 o0 o1 o2 o3 o4 o5 o6 o7 HEQ
  obtain ⟨c0, c1, c2, c3, c4, c5, c6⟩ := HAZ.out.c7
  have HMW := Lib.hid (refWaits_any (vW := .slice aW 0 capW) (vG := .slice aG g.length capG) (vR := .slice aR lj.length capR) (HSJ.out.below HZ.out) (HGJ.out.below HZ.out) h8 hn hg t.seals t.half t.used hrm)
  generalize waitE ls.length t.used g = E at HN HMW
  go_wp2_with fail
  refine HMW.out.mono ?_
  rintro e V ⟨rfl, hv⟩
  have HV := Lib.hid (below_trans HZ.out hv)
  clear hv HMW
  go_wp2_with fail
  go_ret
  exact ⟨ret_bool (by rw [HN.out, Bool.eq_iff_iff]; simp), HV.out⟩
theorem refRight_no {vS vW vG vR : Value} {J : JN} {w : World} (hJ : JRow w vS vW vG vR J) (hz : JSmall J) (hg : J.g.length ≤ 100) (hno : ∀ t, ¬ May J t) : Calls Tryz.prog 12 #[jv vS vW J.s J.h J.u vG vR] w (BoolB false w) := by
  rcases open_or J.ls J.ws with ⟨k, hf⟩ | ⟨hw, t, l, ho⟩
  · exact refRight_fail hJ hz hf
  · refine refRight_open hJ hz hg hw ho ⟨(fun h => by cases h), fun ⟨h1, h2, h3, h4, h5⟩ => absurd ⟨hw, h4 ▸ ho, h1, h2, h3, h5⟩ (hno t)⟩
theorem refRight_yes {vS vW vG vR : Value} {J : JN} {w : World} (hJ : JRow w vS vW vG vR J) (hg : J.g.length ≤ 100) {t : Told} (h : May J t) : Calls Tryz.prog 12 #[jv vS vW J.s J.h J.u vG vR] w (BoolB true w) :=
  refRight_open hJ (may_small h) hg h.nw h.op ⟨fun _ => ⟨h.hs, h.hh, h.hu, rfl, h.wt⟩, fun _ => rfl⟩
end Go.Proofs.YtlpkalfbcphkmaaGreat.Disk.Jn
