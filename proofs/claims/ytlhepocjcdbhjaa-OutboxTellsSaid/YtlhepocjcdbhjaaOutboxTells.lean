/-
  Proved: for any acts the law OutboxTells returns true: whatever is put, done and told as time goes on, keys are never given twice, what is done is done once and told no more, what is told was put and not done, and what is not done is told again at each time that is 10 ticks or more behind the last one. No condition.
-/
import Derived.Test.YtlhepocjcdbhjaaRows
import Derived.Test.YtlhepocjcdbhjaaUHead
import Derived.Deep.CutBlock
import Derived.Deep.CutRange
namespace Go.Proofs.Ytlhepocjcdbhjaa.outboxTells
open Go.ChangeShapes Go.WideShapes Go.ChangeAt Go.RowKit Go.Lib Go.Proofs.Ytlhepocjcdbhjaa.Outbox
open Go.Proofs.Ytlhepocjcdbhjaa.Queue (Box al dr below_trans ret_bool BoolB)
set_option linter.unusedVariables false

theorem own : ownKnob Try.prog.godebug = none := by kernel_rfl
theorem laidOut : laidOutB Try.prog = true := by kernel_rfl

/-- A remainder that is turned to at least 0. -/
theorem mod_any (n : Nat) (h0 : 0 < n) (h1 : n < 1000) (k : Int) : ∃ m : Nat, m < n ∧ Int.tmod (Int.tmod k n + n) n = m ∧ -(n : Int) < Int.tmod k n ∧ Int.tmod k n < n := by
  have h : -(n : Int) < k.tmod n ∧ k.tmod n < n := by
    rcases Int.le_total 0 k with h | h
    · rw [Int.tmod_eq_emod_of_nonneg h]
      have := Int.emod_nonneg k (by omega : (n : Int) ≠ 0)
      have := Int.emod_lt_of_pos k (by omega : (0 : Int) < n)
      omega
    · obtain ⟨m, rfl⟩ : ∃ m, k = -m := ⟨-k, by omega⟩
      rw [Int.neg_tmod, Int.tmod_eq_emod_of_nonneg (by omega)]
      have := Int.emod_nonneg m (by omega : (n : Int) ≠ 0)
      have := Int.emod_lt_of_pos m (by omega : (0 : Int) < n)
      omega
  have e : Int.tmod (Int.tmod k n + n) n = (Int.tmod k n + n) % n := Int.tmod_eq_emod_of_nonneg (by omega)
  have p1 := Int.emod_nonneg (Int.tmod k n + n) (by omega : (n : Int) ≠ 0)
  have p2 := Int.emod_lt_of_pos (Int.tmod k n + n) (by omega : (0 : Int) < n)
  exact ⟨(Int.tmod (Int.tmod k n + n) n).toNat, by omega, by omega, h.1, h.2⟩
theorem mod3 (k : Int) : ∃ q m : Int, Int.tmod k 3 = q ∧ -3 < q ∧ q < 3 ∧ Int.tmod (q + 3) 3 = m ∧ 0 ≤ m ∧ m ≤ 2 := by
  obtain ⟨m, h1, h2, h3, h4⟩ := mod_any 3 (by omega) (by omega) k
  exact ⟨_, m, rfl, h3, h4, h2, by omega, by omega⟩
theorem mod5 (k : Int) : ∃ q m : Int, Int.tmod k 5 = q ∧ -5 < q ∧ q < 5 ∧ Int.tmod (q + 5) 5 = m ∧ 0 ≤ m ∧ m ≤ 4 := by
  obtain ⟨m, h1, h2, h3, h4⟩ := mod_any 5 (by omega) (by omega) k
  exact ⟨_, m, rfl, h3, h4, h2, by omega, by omega⟩
theorem mod20 (k : Int) : ∃ q m : Int, Int.tmod k 20 = q ∧ -20 < q ∧ q < 20 ∧ Int.tmod (q + 20) 20 = m ∧ 0 ≤ m ∧ m ≤ 19 := by
  obtain ⟨m, h1, h2, h3, h4⟩ := mod_any 20 (by omega) (by omega) k
  exact ⟨_, m, rfl, h3, h4, h2, by omega, by omega⟩
theorem act_box {b : Nat} {c0 c1 c2 c3 c4 : Value} {w : World} (h : Box b [c0, c1, c2, c3, c4] w) : w.cell? ⟨b, 0, none⟩ = some c0 ∧ w.cell? ⟨b, 1, none⟩ = some c1 ∧ w.cell? ⟨b, 2, none⟩ = some c2 ∧ w.cell? ⟨b, 3, none⟩ = some c3 ∧ w.cell? ⟨b, 4, none⟩ = some c4 := ⟨(h.2 0 _ rfl).1, (h.2 1 _ rfl).1, (h.2 2 _ rfl).1, (h.2 3 _ rfl).1, (h.2 4 _ rfl).1⟩
theorem tells_z {l : List Ot} {t n : Int} (h : RightP l t) (hn : 0 ≤ n ∧ n ≤ 1000) : tellZ l t n = 0 ∧ tellL l t n = tell l n ∧ tellT l t n = t ∧ tellM l t n = told l n := by
  have e : tellZ l t n = 0 := if_pos ⟨rightB_t.2 h, ⟨hn.1, by omega⟩⟩
  unfold tellL tellT tellM
  rw [e]
  exact ⟨rfl, rfl, rfl, rfl⟩

theorem told_key {l : List Ot} {t n : Int} (h : RightP l t) {j : Nat} (hj : j < (told l n).length) : InI (told l n)[j].y := by
  have := mayU_t.1 (h.2.2.1 _ (mem_told.1 (List.getElem_mem hj)).1).1
  unfold InI
  omega
theorem tdF_bd {s : List Ot} {n : Int} {td : Int → Int} (h : ∀ y, -10 ≤ td y ∧ td y ≤ 570) (hn : 0 ≤ n ∧ n ≤ 1000) (z : Int) : -10 ≤ tdF s n td z ∧ tdF s n td z ≤ 1000 := by
  have := h z
  unfold tdF
  split <;> omega

set_option maxRecDepth 100000 in
set_option maxHeartbeats 16000000 in
theorem walk0 (v : Value) (w : World) (hA : ArgV w v) :
    Calls Try.prog 4 #[v] w (BoolB true w) := by
  obtain ⟨a, len, cap, rfl, hlc, hcap, hacts⟩ := hA
  have HACT := Lib.hid hacts
  obtain ⟨W3, hW3⟩ : ∃ W, ((w.alloc (.cells #[.int .i64 0, .slice none 0 0] 24)).alloc (.map #[] 0)).alloc (.map #[] 0) = W := ⟨_, rfl⟩
  have HST := Lib.hid (Head.start w W3 hW3)
  have hmm := @run_makeMap Try.prog
  clear hacts
  go_enter Try.func4, Try.ntmps4
  go_upto_block 0 with (fail)
  try rw [hW3]
  clear hW3 hmm
  go_cut [4] from 4 to 184 (fun _ wx => Below w.heap.size w wx)
  case rest =>
    have HB := Lib.hid hcut
    clear hcut HST HACT
    go_wp2_with (go_at_call 14; (with_reducible refine (alive_any _).mono ?_); rintro e w' ⟨rfl, hz⟩)
    have HB2 := Lib.hid (below_trans HB.out hz)
    clear hz
    go_ret
    exact ⟨rfl, HB2.out⟩
  case first =>
    go_wp2_with fail
    go_loopw [4, 5, 8, 9, 10, 11, 12, 13, 14, 15, 16, 17, 18, 19, 21, 22, 27] (fun x4 x5 _ _ _ _ _ _ _ _ _ _ _ _ _ _ x27 wr => ∃ (k : Nat) (n t : Int) (l : List Ot) (va : Option Addr) (vc : Nat) (op hp : Int → Bool) (m : Nat) (td : Int → Int), k ≤ len ∧ k ≤ 30 ∧ x27 = .int .i64 k ∧ x4 = .int .i64 n ∧ x5 = .int .i64 t ∧ Head w k n t l (.slice va l.length vc) op hp m td wr) (fun _ _ _ _ _ _ _ _ _ _ _ _ _ _ _ _ x27 _ => len - (intOf x27).toNat)
    case atStart => exact ⟨0, 0, 0, [], none, 0, _, _, 0, _, Nat.zero_le _, Nat.zero_le _, rfl, rfl, rfl, HST.out⟩
    case round =>
      clear HST
      obtain ⟨k, n, t, l, va, vc, op, hp, m, td, hk, hk30, rfl, rfl, rfl, hst⟩ := hrel
      have HST := Lib.hid hst
      clear hst
      by_cases hlt : k < len
      case neg =>
        obtain rfl : k = len := by omega
        go_wp2_with fail
        go_meet
        exact HST.out.bel
      obtain ⟨gb, off, rfl, hgb, hact⟩ := HACT.out (by omega)
      obtain ⟨kd, wh, od, y, by0, hyb, a0, a1, a2, a3, a4⟩ := hact k hlt
      have hb := HST.out.bel
      have e0 := (hb.cell (p := ⟨gb, off + k * 5, none⟩) hgb).trans a0
      have e1 := (hb.cell (p := ⟨gb, off + k * 5 + 1, none⟩) hgb).trans a1
      have e2 := (hb.cell (p := ⟨gb, off + k * 5 + 2, none⟩) hgb).trans a2
      have e3 := (hb.cell (p := ⟨gb, off + k * 5 + 3, none⟩) hgb).trans a3
      have e4 := (hb.cell (p := ⟨gb, off + k * 5 + 4, none⟩) hgb).trans a4
      have hkl : (k : Int) ≤ 9223372036854775807 := by omega
      have hIN : InI y := hyb
      have HIN := Lib.hid hIN
      clear a0 a1 a2 a3 a4 hact HACT hyb hIN
      have hba := al wr (.cells #[.int .i64 kd, .int .i64 wh, .int .i64 od, .int .i64 y, .int .i64 by0] 53)
      by_cases h30 : k = 30
      · subst h30
        have HB9 := Lib.hid (below_trans hb hba)
        clear hb hba
        go_wp2_with fail
        go_meet
        exact HB9.out
      have hk31 : k < 30 := by omega
      have hk32 : (k : Int) < 30 := by omega
      have hbx := Box.made wr [.int .i64 kd, .int .i64 wh, .int .i64 od, .int .i64 y, .int .i64 by0] 53
      obtain ⟨W4, hW4⟩ : ∃ W, wr.alloc (.cells #[.int .i64 kd, .int .i64 wh, .int .i64 od, .int .i64 y, .int .i64 by0] 53) = W := ⟨_, rfl⟩
      have HXA : Hid (Box wr.heap.size [.int .i64 kd, .int .i64 wh, .int .i64 od, .int .i64 y, .int .i64 by0] W4) := Lib.hid (hW4 ▸ hbx)
      have HH : Hid (Head w k n t l (.slice va l.length vc) op hp m td W4) := Lib.hid (HST.out.mono (hW4 ▸ hba))
      clear hbx hba hb h30
      have hn := HH.out.tl.time
      have hn0 : 0 ≤ n := hn.1
      have hn1 : n ≤ 570 := by omega
      have ht := HH.out.tl.right.2.1
      have ht0 : 0 ≤ t := ht.1
      have ht1 : t ≤ 30 := by have := HH.out.tl.last; omega
      have hll : l.length ≤ 30 := by have := HH.out.tl.few; omega
      clear hn ht
      obtain ⟨q20, b, hq20, hq20a, hq20b, hb20, hb0, hb19⟩ := mod20 by0
      obtain ⟨q3, d, hq3, hq3a, hq3b, hd3, hd0, hd2⟩ := mod3 kd
      obtain ⟨k0, k1, k2, k3, k4⟩ := act_box HXA.out
      have hs4 := HXA.out.1
      obtain ⟨b0, b1⟩ := box2 HH.out.box
      have hs5 := HH.out.box.1
      have hdd : d = 0 ∨ d = 1 ∨ d = 2 := by omega
      clear hd0 hd2
      rcases hdd with rfl | rfl | rfl
      · obtain ⟨q3', c, hq3', hq3a', hq3b', hc3, hc0, hc2⟩ := mod3 wh
        obtain ⟨q5, o, hq5, hq5a, hq5b, ho5, ho0, ho4⟩ := mod5 od
        have HPU := Lib.hid (Put_any (w := W4) t (1 + c) (1 + o) (n + b) HH.out.own.row (by omega))
        have hw := HH.out.tl.puts hk31 (c := 1 + c) (o := 1 + o) (n' := n + b) (by omega) (by omega) (by omega)
        unfold bv at HPU
        rcases hw with ⟨_, ez⟩ | ⟨hf, ez, el, et⟩
        · rw [ez] at HPU
          generalize putL l t (1 + c) (1 + o) (n + b) = L at HPU
          generalize putT l t (1 + c) (1 + o) (n + b) = T at HPU
          clear ez
          go_wp2_with fail
          clear hW4
          (with_reducible refine HPU.out.mono ?_)
          rintro e w5 ⟨v5, rfl, ho, hz⟩
          unfold bv
          obtain ⟨a5, c5, rfl⟩ := ho.row.slice
          have HE := Lib.hid ((HH.out.stays (b := b) ⟨hb0, hb19⟩).mono (below_trans hz (al w5 (.cells #[.int .i64 T, .slice a5 L.length c5] 24))))
          clear hz ho HPU
          go_wp2_with fail
          go_roundw
          case rel => exact ⟨k + 1, _, _, _, _, _, _, _, _, _, by omega, by omega, by go_num, rfl, rfl, HE.out⟩
          case measure => simp [intOf]; omega
        · rw [ez, el, et] at HPU
          have HFN := Lib.hid hf
          clear ez el et hf
          go_upto_region 28 with (fail)
          try rw [hW4]
          clear hW4
          go_wp2_with fail
          (with_reducible refine HPU.out.mono ?_)
          rintro e w5 ⟨v5, rfl, ho, hz⟩
          unfold bv
          obtain ⟨a5, n5, c5, rfl⟩ : ∃ a n c, v5 = .slice a n c := (by obtain ⟨a', c', e⟩ := ho.row.slice; exact ⟨a', _, c', e⟩)
          have hn5 : n5 = (put l t (1 + c) (1 + o) (n + b)).length := (URow.cap ho.row).1
          have hba := al w5 (.cells #[.int .i64 (t + 1), .slice a5 n5 c5] 24)
          have hbx := Box.made w5 (bcs (t + 1) (.slice a5 n5 c5)) 24
          obtain ⟨W6, hW6⟩ : ∃ W, w5.alloc (.cells #[.int .i64 (t + 1), .slice a5 n5 c5] 24) = W := ⟨_, rfl⟩
          have hba6 : Below w5.heap.size w5 W6 := hW6 ▸ hba
          have hbx6 : Box w5.heap.size (bcs (t + 1) (.slice a5 n5 c5)) W6 := hW6 ▸ hbx
          obtain ⟨W8, W9, p1, p2, op', hp', m', td', hH⟩ := HH.out.put hk31 (c := 1 + c) (o := 1 + o) (b := b) (by omega) (by omega) ⟨hb0, hb19⟩ HFN.out (below_trans hz hba6) (ho.below hba6)
          subst hn5
          have HE := Lib.hid hH
          obtain ⟨g0, g1⟩ := box2 hbx6
          have hgs := hbx6.1
          have hbb := HH.out.box.below (below_trans hz hba6)
          obtain ⟨f0, f1⟩ := box2 hbb
          obtain ⟨z0, z1⟩ := frz2 hbb
          have hbs := hbb.1
          have hps : 0 < (put l t (1 + c) (1 + o) (n + b)).length := by unfold put; rw [List.length_append]; simp
          clear hz ho hba hbx hba6 hbx6 hH hbb HPU b0 b1 hs5 HH HXA k0 k1 k2 k3 k4 hs4
          generalize (put l t (1 + c) (1 + o) (n + b)) = L at *
          go_upto_region 29 with (fail)
          try rw [hW6]
          clear hW6
          go_upto_region 44 with (fail)
          obtain ⟨u0, u1⟩ := box2 HE.out.box
          have hs9 := HE.out.box.1
          have hR := HE.out.right (by omega) _ (Below.refl _ _)
          unfold bv at hR
          have HR := Lib.hid hR
          clear hR
          go_wp2_with fail
          (with_reducible refine HR.out.mono ?_)
          rintro e w9 ⟨rfl, hz⟩
          have HF := Lib.hid (HE.out.mono hz)
          clear hz u0 u1 hs9 HE HR
          obtain ⟨u0, u1⟩ := box2 HF.out.box
          have hs9 := HF.out.box.1
          have hln := HF.out.len
          go_wp2_with fail
          go_roundw
          case rel => exact ⟨k + 1, _, _, _, _, _, _, _, _, _, by omega, by omega, by go_num, rfl, rfl, HF.out⟩
          case measure => simp [intOf]; omega
      · have HDO := Lib.hid (Done_any (w := W4) t y HH.out.own.row (by omega))
        have hw := HH.out.tl.does y
        have hlook := HH.out.look HIN.out
        unfold bv at HDO
        rcases hw with ⟨eg, eo, ez, el, et, ex⟩ | ⟨x, eg, ey, eo, ez, el, et, ex⟩
        · rw [ez, el, et, ex] at HDO
          have HEO := Lib.hid eo
          clear ez el et ex eg eo hlook
          go_upto_region 36 with (fail)
          try rw [hW4]
          clear hW4
          go_wp2_with fail
          (with_reducible refine HDO.out.mono ?_)
          rintro e w5 ⟨v5, rfl, ho, hz⟩
          unfold bv uv
          obtain ⟨a5, n5, c5, rfl⟩ : ∃ a n c, v5 = .slice a n c := (by obtain ⟨a', c', e⟩ := ho.row.slice; exact ⟨a', _, c', e⟩)
          have hba := two_al w5 (.cells #[.int .i64 0, .slice a5 n5 c5] 24) (.cells #[.int .i64 noT.y, .int .i64 noT.k, .int .i64 noT.o, .int .i64 noT.d] 30)
          obtain ⟨W6, hW6⟩ : ∃ W, (w5.alloc (.cells #[.int .i64 0, .slice a5 n5 c5] 24)).alloc (.cells #[.int .i64 noT.y, .int .i64 noT.k, .int .i64 noT.o, .int .i64 noT.d] 30) = W := ⟨_, rfl⟩
          have hba6 : Below w5.heap.size w5 W6 := hW6 ▸ hba
          have HM := Lib.hid (HH.out.mono (below_trans hz hba6))
          have HE := Lib.hid (HM.out.stays (b := b) ⟨hb0, hb19⟩)
          have hlook := HM.out.look HIN.out
          rw [HEO.out] at hlook
          obtain ⟨k0', k1', k2', k3', k4'⟩ := act_box (HXA.out.below (below_trans hz hba6))
          have hs4' := (HXA.out.below (below_trans hz hba6)).1
          clear hz ho hba hba6 HDO b0 b1 hs5 k0 k1 k2 k3 k4 hs4
          go_upto_region 37 with (fail)
          try rw [hW6]
          clear hW6
          go_upto_region 44 with (fail)
          obtain ⟨u0, u1⟩ := box2 HE.out.box
          have hs9 := HE.out.box.1
          have hR := HE.out.right (by omega) _ (Below.refl _ _)
          unfold bv at hR
          have HR := Lib.hid hR
          clear hR
          go_wp2_with fail
          (with_reducible refine HR.out.mono ?_)
          rintro e w9 ⟨rfl, hz⟩
          have HF := Lib.hid (HE.out.mono hz)
          clear hz u0 u1 hs9 HE HR
          obtain ⟨u0, u1⟩ := box2 HF.out.box
          have hs9 := HF.out.box.1
          have hln := HF.out.len
          go_wp2_with fail
          go_roundw
          case rel => exact ⟨k + 1, _, _, _, _, _, _, _, _, _, by omega, by omega, by go_num, rfl, rfl, HF.out⟩
          case measure => simp [intOf]; omega
        · subst ey
          rw [ez, el, et, ex] at HDO
          have HEO := Lib.hid eo
          have HEG := Lib.hid eg
          clear ez el et ex eg eo hlook
          go_upto_region 36 with (fail)
          try rw [hW4]
          clear hW4
          go_wp2_with fail
          (with_reducible refine HDO.out.mono ?_)
          rintro e w5 ⟨v5, rfl, ho, hz⟩
          unfold bv uv
          obtain ⟨a5, n5, c5, rfl⟩ : ∃ a n c, v5 = .slice a n c := (by obtain ⟨a', c', e⟩ := ho.row.slice; exact ⟨a', _, c', e⟩)
          have hn5 : n5 = (done l x.y).length := (URow.cap ho.row).1
          obtain ⟨hx0, hx1⟩ := two_boxes w5 (bcs t (.slice a5 n5 c5)) (ocs x) 24 30
          have hba := two_al w5 (.cells #[.int .i64 t, .slice a5 n5 c5] 24) (.cells #[.int .i64 x.y, .int .i64 x.k, .int .i64 x.o, .int .i64 x.d] 30)
          obtain ⟨W6, hW6⟩ : ∃ W, (w5.alloc (.cells #[.int .i64 t, .slice a5 n5 c5] 24)).alloc (.cells #[.int .i64 x.y, .int .i64 x.k, .int .i64 x.o, .int .i64 x.d] 30) = W := ⟨_, rfl⟩
          have hba6 : Below w5.heap.size w5 W6 := hW6 ▸ hba
          have hx0' : Box w5.heap.size (bcs t (.slice a5 n5 c5)) W6 := hW6 ▸ hx0
          have hx1' : Box (w5.heap.size + 1) (ocs x) W6 := hW6 ▸ hx1
          have HM := Lib.hid (HH.out.mono (below_trans hz hba6))
          have hlook := HM.out.look HIN.out
          rw [HEO.out] at hlook
          have hH := fun ty => HH.out.done hk31 HIN.out (b := b) ⟨hb0, hb19⟩ HEG.out (below_trans hz hba6) (ho.below hba6) ty
          subst hn5
          obtain ⟨k0', k1', k2', k3', k4'⟩ := act_box (HXA.out.below (below_trans hz hba6))
          have hs4' := (HXA.out.below (below_trans hz hba6)).1
          obtain ⟨g0, g1⟩ := box2 hx0'
          have hgs := hx0'.1
          obtain ⟨j0, j1, j2, j3⟩ := box4 hx1'
          have hgs1 := hx1'.1
          have hbb := HM.out.box
          obtain ⟨f0, f1⟩ := box2 hbb
          obtain ⟨z0, z1⟩ := frz2 hbb
          have hbs := hbb.1
          have hak := HXA.out.below (below_trans hz hba6)
          have hne1 : wr.heap.size ≠ w.heap.size := by have := HST.out.box.1; omega
          have hlk := (box_set_other (box_set_other hak (g := w.heap.size) (j := 0) (by omega) (.int .i64 t)) (g := w.heap.size) (j := 1) (by omega) (.slice a5 (done l x.y).length c5))
          obtain ⟨i0, i1, i2, i3, i4⟩ := act_box hlk
          have hil := hlk.1
          have HH8 := Lib.hid hH
          clear hz ho hba hba6 HDO b0 b1 hs5 k0 k1 k2 k3 k4 hs4 hx0 hx1 hx0' hx1' hbb hak hlk hH HM HH
          go_upto_region 37 with (fail)
          try rw [hW6]
          clear hW6
          go_upto_region 43 with (fail)
          obtain ⟨W8, p1, op', hp', m', hE⟩ := HH8.out 0
          have HE := Lib.hid hE
          clear hE
          go_upto_region 44 with (fail)
          obtain ⟨u0, u1⟩ := box2 HE.out.box
          have hs9 := HE.out.box.1
          have hR := HE.out.right (by omega) _ (Below.refl _ _)
          unfold bv at hR
          have HR := Lib.hid hR
          clear hR
          go_wp2_with fail
          (with_reducible refine HR.out.mono ?_)
          rintro e w9 ⟨rfl, hz⟩
          have HF := Lib.hid (HE.out.mono hz)
          clear hz u0 u1 hs9 HE HR
          obtain ⟨u0, u1⟩ := box2 HF.out.box
          have hs9 := HF.out.box.1
          have hln := HF.out.len
          go_wp2_with fail
          go_roundw
          case rel => exact ⟨k + 1, _, _, _, _, _, _, _, _, _, by omega, by omega, by go_num, rfl, rfl, HF.out⟩
          case measure => simp [intOf]; omega
      · have HTE := Lib.hid (Tell_any (w := W4) t (n + b) HH.out.own.row (by omega))
        obtain ⟨ez, el, et, em⟩ := tells_z HH.out.tl.right (n := n + b) (by omega)
        rw [ez, el, et, em] at HTE
        unfold bv at HTE
        clear ez el et em
        go_upto_region 10 with (fail)
        try rw [hW4]
        clear hW4
        go_wp2_with fail
        (with_reducible refine HTE.out.mono ?_)
        rintro e w5 ⟨v5, u5, rfl, ho, hou, hz⟩
        unfold bv
        obtain ⟨a5, n5, c5, rfl⟩ : ∃ a n c, v5 = .slice a n c := (by obtain ⟨a', c', e⟩ := ho.row.slice; exact ⟨a', _, c', e⟩)
        have hn5 : n5 = (tell l (n + b)).length := (URow.cap ho.row).1
        obtain ⟨a6, c6, rfl⟩ := hou.row.slice
        obtain ⟨W7, hW7⟩ : ∃ W, (w5.alloc (.cells #[.int .i64 t, .slice a5 n5 c5] 24)).alloc (.map #[] 0) = W := ⟨_, rfl⟩
        have hI := Inv.start HH.out hz ho hou hW7
        have HTL := Lib.hid HH.out.tl
        have HI := Lib.hid hI
        have hls : (told l (n + b)).length ≤ 96 := by have := List.length_filter_le (fun x : Ot => decide (x.d ≤ n + b)) l; unfold told; omega
        have hmm := @run_makeMap Try.prog
        clear hz ho hou hI HTE b0 b1 hs5 k0 k1 k2 k3 k4 hs4 HXA HH
        subst hn5
        have HTS := Lib.hid (fun j (hj : j < (told l (n + b)).length) => HTL.out.tells (n' := n + b) hj)
        have HWT := Lib.hid (fun y (hy : hp y = true) (hs : seenF (told l (n + b)) y = false) => HTL.out.waits (n' := n + b) hy hs)
        have HKY := Lib.hid (fun j (hj : j < (told l (n + b)).length) => told_key HTL.out.right hj)
        have HBD := Lib.hid (fun (s : List Ot) z => tdF_bd (s := s) (n := n + b) HTL.out.bd (by omega) z)
        go_upto_region 14 with (fail)
        try rw [hW7]
        clear hW7 hmm
        generalize hbx : w5.heap.size = bx at *
        clear hbx
        generalize hsl : told l (n + b) = s at *
        go_wp2_with fail
        go_loopw [21, 58] (fun _ i wx => ∃ j : Nat, j ≤ s.length ∧ i = .int .i64 j ∧ Outbox.Inv w k (n + b) t (.slice va l.length vc) (.slice a5 (tell l (n + b)).length c5) (.slice a6 s.length c6) (tell l (n + b)) s bx (bx + 1) op hp m td j wx) (fun _ i _ => s.length - (intOf i).toNat)
        case atStart => exact ⟨0, Nat.zero_le _, rfl, HI.out⟩
        case round =>
          rename World => wx
          obtain ⟨j, hj, rfl, hi⟩ := hrel
          clear HI
          have HI := Lib.hid hi
          clear hi
          by_cases hjl : j < s.length
          · obtain ⟨gr, ro, rfl, hrc, hrp, hrb, r0, r1, r2, r3⟩ := URow.at HI.out.row.row hjl
            have hba := al wx (.cells #[.int .i64 s[j].y, .int .i64 s[j].k, .int .i64 s[j].o, .int .i64 s[j].d] 30)
            have hbx := Box.made wx (ocs s[j]) 30
            obtain ⟨hop, htq, hse⟩ := HTS.out j hjl
            have hin := HKY.out j hjl
            have htb := HBD.out (s.take j) s[j].y
            have HLO := HI.out.lo
            obtain ⟨W1, hW1⟩ : ∃ W, wx.alloc (.cells #[.int .i64 s[j].y, .int .i64 s[j].k, .int .i64 s[j].o, .int .i64 s[j].d] 30) = W := ⟨_, rfl⟩
            have hbx1 : Box wx.heap.size (ocs s[j]) W1 := hW1 ▸ hbx
            have hba1 : Below wx.heap.size wx W1 := hW1 ▸ hba
            have HI1 := Lib.hid (HI.out.below hba1)
            have HNT := Lib.hid (fun W (hb : Below W1.heap.size W1 W) => Inv.note (HI1.out.below hb) hk30 hjl hls hin ⟨by omega, by omega⟩)
            generalize s[j] = x at *
            have HX1 := Lib.hid hbx1
            have hl1 := HI1.out.isOpen hin
            have hl2 := HI1.out.isSeen hin
            have hl3 := HI1.out.wasTold hin
            rw [hop] at hl1
            rw [hse] at hl2
            generalize tdF (s.take j) (n + b) td x.y = q at *
            have hbsz : bx + 1 < wx.heap.size := by obtain ⟨h2, m2, h3⟩ := HI.out.seen; exact h3.lt
            obtain ⟨d0, d1, d2, d3⟩ := box4 hbx1
            have hds := hbx1.1
            clear hop hse hba hbx hba1 hbx1
            have hq1 : ¬ (n + b < q + 10) := by omega
            go_upto_region 17 with (fail)
            try rw [hW1]
            clear hW1
            generalize wx.heap.size = ba at *
            go_upto_region 19 with (fail)
            clear hl1 hl2 hl3 d0 d1 d2 d3 hds r0 r1 r2 r3
            refine wp_region_noPanic ?_
            refine till_region (fun W' => Box ba (ocs x) W') (fun j => decide (8 ≤ j)) (by kernel_rfl) ?_
            have HWD := Lib.hid (dr W1)
            generalize W1.drew = WD at HWD ⊢
            have hS := HX1.out.below HWD.out
            obtain ⟨W8, W9, p1, p2, hg8, hI9⟩ := HNT.out WD HWD.out
            have hS8 : Box ba (ocs x) W8 := Box.keptN hS hg8 (by simp; omega)
            try simp only [Act.put, List.setIfInBounds_toArray, List.set_cons_zero, List.set_cons_succ]
            refine takeT 0 82 [7, 8] (.map (some (bx + 1))) calm_np rfl rfl (by kernel_rfl) (by rfl) (by kernel_rfl) (by kernel_rfl) (by kernel_rfl) (by kernel_rfl) (by rfl) (fun w' hSw => by go_simp) hS ?_
            try simp only [Act.put, List.setIfInBounds_toArray, List.set_cons_zero, List.set_cons_succ]
            refine takeT 1 83 [7, 8] (.pointer (some ⟨ba, 0, none⟩)) calm_np rfl rfl (by kernel_rfl) (by rfl) (by kernel_rfl) (by kernel_rfl) (by kernel_rfl) (by kernel_rfl) (by rfl) (fun w' hSw => by go_simp) hS ?_
            try simp only [Act.put, List.setIfInBounds_toArray, List.set_cons_zero, List.set_cons_succ]
            refine takeT 2 84 [7, 8] (.int .i64 x.y) calm_np rfl rfl (by kernel_rfl) (by rfl) (by kernel_rfl) (by kernel_rfl) (by kernel_rfl) (by kernel_rfl) (by rfl) (fun w' hSw => by obtain ⟨g0, g1, g2, g3⟩ := box4 hSw; have hsl := hSw.1; go_simp) hS ?_
            try simp only [Act.put, List.setIfInBounds_toArray, List.set_cons_zero, List.set_cons_succ]
            refine takeT 3 85 [8] (.map (some (w.heap.size + 1 + 1))) calm_np rfl rfl (by kernel_rfl) (by rfl) (by kernel_rfl) (by kernel_rfl) (by kernel_rfl) (by kernel_rfl) (by rfl) (fun w' hSw => by go_simp) hS ?_
            try simp only [Act.put, List.setIfInBounds_toArray, List.set_cons_zero, List.set_cons_succ]
            refine takeT 4 86 [8] (.pointer (some ⟨ba, 0, none⟩)) calm_np rfl rfl (by kernel_rfl) (by rfl) (by kernel_rfl) (by kernel_rfl) (by kernel_rfl) (by kernel_rfl) (by rfl) (fun w' hSw => by go_simp) hS ?_
            try simp only [Act.put, List.setIfInBounds_toArray, List.set_cons_zero, List.set_cons_succ]
            refine takeT 5 87 [8] (.int .i64 x.y) calm_np rfl rfl (by kernel_rfl) (by rfl) (by kernel_rfl) (by kernel_rfl) (by kernel_rfl) (by kernel_rfl) (by rfl) (fun w' hSw => by obtain ⟨g0, g1, g2, g3⟩ := box4 hSw; have hsl := hSw.1; go_simp) hS ?_
            try simp only [Act.put, List.setIfInBounds_toArray, List.set_cons_zero, List.set_cons_succ]
            refine takeT 6 88 [8] (.int .i64 (n + b)) calm_np rfl rfl (by kernel_rfl) (by rfl) (by kernel_rfl) (by kernel_rfl) (by kernel_rfl) (by kernel_rfl) (by rfl) (fun w' hSw => by go_simp) hS ?_
            try simp only [Act.put, List.setIfInBounds_toArray, List.set_cons_zero, List.set_cons_succ]
            refine till_ready (rs := [7]) (by kernel_rfl) (by simp) (Each.cons rfl (fun K hK => ?_) Each.nil)
            go_simp
            refine hK.out _ _ (fun _ => hS8) ?_
            clear hK
            try simp only [Act.put, List.setIfInBounds_toArray, List.set_cons_zero, List.set_cons_succ]
            refine till_ready (rs := [8]) (by kernel_rfl) (by simp) (Each.cons rfl (fun K hK => ?_) Each.nil)
            go_simp
            refine hK.out _ _ (fun h => by cases h) ?_
            clear hK
            try simp only [Act.put, List.setIfInBounds_toArray, List.set_cons_zero, List.set_cons_succ]
            refine till_done (by kernel_rfl) ?_ _
            refine NoPanic.normal ?_
            go_wp2_with fail
            go_roundw
            case rel => exact ⟨j + 1, by omega, by go_num, hI9⟩
            case measure => simp [intOf]; omega
          · obtain rfl : j = s.length := by omega
            have HLO := HI.out.lo
            have hbsz : bx + 1 < wx.heap.size := by obtain ⟨h2, m2, h3⟩ := HI.out.seen; exact h3.lt
            obtain ⟨W8, hr1, hrg, hg8, hz8⟩ := HI.out.opn.range Try.underlying3 Try.underlying50
            have HI8 := Lib.hid (HI.out.kept hg8 (fun r e => by cases e))
            have HRG := Lib.hid hrg
            clear hrg hg8 hz8 HI HTS HKY
            go_upto_region 22 with (fail)
            clear hr1
            generalize wx.heap.size = r at *
            go_wp2_with fail
            go_loopw [22] (fun _ wy => ∃ (left : Int → Bool) (cnt : Nat), RangeB wy (w.heap.size + 1) r (100 * k) op hp left cnt ∧ (∀ z, left z = true → hp z = true) ∧ Outbox.Inv w k (n + b) t (.slice va l.length vc) (.slice a5 (tell l (n + b)).length c5) (.slice a6 s.length c6) (tell l (n + b)) s bx (bx + 1) op hp m td s.length wy) (fun _ wy => wy.rangeLeft (w.heap.size + 1) r)
            case atStart => exact ⟨hp, m, HRG.out, fun _ h => h, HI8.out⟩
            case round =>
              rename World => wy
              obtain ⟨left, cnt, hrg, hleft, hi⟩ := hrel
              clear HRG HI8
              have HI := Lib.hid hi
              have HLF := Lib.hid hleft
              have HRE := Lib.hid hrg.left_eq
              clear hi hleft
              rcases hrg.next Try.underlying3 0 with ⟨h0, hl, hrun⟩ | ⟨yy, W9, cnt', hyy, hly, hrun, hrg', hlt', hg9, hz9, hen⟩
              · clear hl h0 hrg
                have hnew := HI.out.new
                obtain ⟨g0, g1⟩ := box2 hnew
                have hgs := hnew.1
                have hbb := HI.out.box
                obtain ⟨f0, f1⟩ := box2 hbb
                obtain ⟨z0, z1⟩ := frz2 hbb
                have hbs := hbb.1
                have hi9 := HI.out
                subst hsl
                have HE := Lib.hid (Inv.ends hi9 hk31 HTL.out ⟨hb0, hb19⟩ rfl hls)
                clear hnew hbb hi9 HI HWT HLF HRE HBD
                go_upto_region 44 with (fail)
                clear hrun
                obtain ⟨u0, u1⟩ := box2 HE.out.box
                have hs9 := HE.out.box.1
                have hR := HE.out.right (by omega) _ (Below.refl _ _)
                unfold bv at hR
                have HR := Lib.hid hR
                clear hR
                go_wp2_with fail
                (with_reducible refine HR.out.mono ?_)
                rintro e w9 ⟨rfl, hz⟩
                have HF := Lib.hid (HE.out.mono hz)
                clear hz u0 u1 hs9 HE HR
                obtain ⟨u0, u1⟩ := box2 HF.out.box
                have hs9 := HF.out.box.1
                have hln := HF.out.len
                go_wp2_with fail
                go_roundw
                case rel => exact ⟨k + 1, _, _, _, _, _, _, _, _, _, by omega, by omega, by go_num, rfl, rfl, HF.out⟩
                case measure => simp [intOf]; omega
              · have hpy := HLF.out yy hly
                have hi9 := HI.out.kept hg9 (fun r e => by cases e; omega)
                have HI9 := Lib.hid hi9
                have HRG := Lib.hid hrg'
                have HRE9 := Lib.hid hrg'.left_eq
                have hl2 := hi9.isSeen hyy
                rw [List.take_length] at hl2
                have hl3 := hi9.wasTold hyy
                rw [List.take_length] at hl3
                have hwt := HWT.out yy hpy
                obtain ⟨hbd0, hbd1⟩ := HBD.out s yy
                have HLF9 : Hid (∀ z, (left z && !decide (z = yy)) = true → hp z = true) := Lib.hid (fun z hz => HLF.out z (by simp at hz; exact hz.1))
                generalize tdF s (n + b) td yy = q at *
                clear hi9 hly hpy hg9 hz9 hrg hrg' HI HLF
                cases hsn : seenF s yy with
                | true =>
                  rw [hsn] at hl2
                  clear hsn hwt
                  go_wp2_with fail
                  go_roundw
                  case rel => exact ⟨_, cnt', HRG.out, HLF9.out, HI9.out⟩
                  case measure => rw [HRE9.out, HRE.out]; omega
                | false =>
                  have hwq := hwt hsn
                  rw [hsn] at hl2
                  have hwq2 : ¬ (n + b ≥ q + 10) := by omega
                  clear hsn hwt
                  go_wp2_with fail
                  go_roundw
                  case rel => exact ⟨_, cnt', HRG.out, HLF9.out, HI9.out⟩
                  case measure => rw [HRE9.out, HRE.out]; omega

set_option maxRecDepth 100000 in
set_option maxHeartbeats 4000000 in
theorem lifted (os : Os) (started : os.Started) (H : Type) (enc : TypeId × Value → H) :
    ReturnsInHanded {} Try.checked os 4 .any (Rows.outboxTellsSpec.pre6 enc Try.prog Try.f4 Rows.outboxTellsRow.domain false) (Rows.outboxTellsSpec.post enc Try.prog Try.f4 false true false false) := by
  refine returnsInHanded_of_change (C := Try.checked) own started (by kernel_rfl) Try.func4
    (ChangeSpec.witness6 (enc := enc) (C := Try.checked) false ⟨#[], #[.slice none 0 0], []⟩ 8 (by kernel_rfl) (by kernel_rfl) (by kernel_rfl) (by kernel_rfl)) ?_
  intro W base args ds gs before hval0 hW hcnd _
  have hval : ∀ (j : Nat) t v, Try.f4.params[j]? = some t → args[j]? = some v → Value.okWide Try.prog W .any base t v := hval0
  have hW' := hW
  obtain ⟨p, q, hA0, hV, rfl, hfz, hnd⟩ := hW
  have hA : DataW.TrodAll enc Try.prog W 0 (fun _ => true) true Try.f4.params.toList args.toList ds p := hA0
  rw [Try.params4] at hA hval
  obtain ⟨v0, vs0, d0, ds0, p0, q0, hargs, rfl, rfl, h0, r0⟩ := trodAll_cons hA
  obtain ⟨rfl, rfl, rfl⟩ := trodAll_nil r0
  obtain rfl : args = #[v0] := by cases args; simp_all
  obtain ⟨rfl, rfl⟩ := trodVars_none hV
  have k0 := h0
  have lt0 : ∀ x ∈ p0, x.block < W.heap.size := by obtain ⟨m, hm⟩ := k0; exact DataW.trod_lt m _ _ _ hm
  obtain ⟨fuel0, hf0⟩ := h0
  obtain ⟨aa0, ll0, cc0, rfl⟩ := okWide_slice Try.underlying49 (hval 0 49 v0 rfl rfl)
  have w0 := argV_of (v := .slice aa0 ll0 cc0) hf0
  clear hA0 hval0
  refine (walk0 (.slice aa0 ll0 cc0) W w0).mono fun e W' ⟨he, bel⟩ => ?_
  subst he
  exact ⟨_, rfl, _, _, _, [], _, [], hW', trodAll_mk1 (shut_bool Try.underlying4 _), (trodAll_cons_mk (Below.trod laidOut (by kernel_rfl) (of_decide_eq_true (by kernel_rfl)) k0 bel lt0) trodAll_mk0), rfl, bel.frame _, fun h => by cases h⟩

theorem over : Rows.outboxTellsRow.holds Try.pinned (OpenSpec.ofChange Rows.outboxTellsSpec) :=
  OpenClaim.holds_of_wide 4 Try.f4 rfl rfl rfl rfl rfl rfl rfl ⟨rfl, rfl, rfl, rfl, rfl⟩ rfl rfl rfl rfl rfl (by kernel_rfl) Try.func4 (by kernel_rfl)
    (of_decide_eq_true (by kernel_rfl)) (by unfold Func.isWrapper; first | (rw [if_pos (by decide +kernel)]; kernel_rfl) | (rw [if_neg (by decide +kernel)]; exact ⟨rfl, rfl⟩))
    (fun os started H enc _ => lifted os started H enc)

theorem proved : Rows.OutboxTellsSaid := over
#print axioms proved
end Go.Proofs.Ytlhepocjcdbhjaa.outboxTells
