/-
  Proved: for any text, any integer and any number of 32 bits the law CheckBursts returns true: any change within 32 bits that follow one another changes the check. No condition.
-/
import Derived.Test.YthfiojiihjmndaaRows
import Derived.Test.YthfiojiihjmndaaBRow
import Derived.StillTailTactics
import Derived.ShutString
import Derived.ChangeOld
import Derived.WalkLawsBesides
import Derived.WalkSpells
namespace Go.Proofs.Ythfiojiihjmndaa.checkBursts
open Go.ChangeShapes Go.WideShapes Go.ChangeAt Go.RowKit Go.Lib Go.Proofs.Ythfiojiihjmndaa.Crc
set_option linter.unusedVariables false
open Go.ChangeMaps (open_string shut_string)

theorem own : ownKnob Try.prog.godebug = none := by kernel_rfl

theorem place (a : Int) (m : Nat) (h0 : 0 < m) (h1 : m ≤ 1600) : ∃ p : Nat, (wrap64 (a.tmod (m : Int) + (m : Int))).tmod (m : Int) = (p : Int) ∧ p < m := by
  have hm : (0 : Int) < (m : Int) := by omega
  have l1 := Int.tmod_lt_of_pos a hm
  have l2 := Int.lt_tmod_of_pos a hm
  rw [IntWalk.wrap64_in _ ⟨by omega, by omega⟩]
  have e := Int.tmod_eq_emod_of_nonneg (a := a.tmod (m : Int) + (m : Int)) (b := (m : Int)) (by omega)
  have g1 := Int.emod_nonneg (a.tmod (m : Int) + (m : Int)) (b := (m : Int)) (by omega)
  have g2 := Int.emod_lt_of_pos (a.tmod (m : Int) + (m : Int)) hm
  exact ⟨((a.tmod (m : Int) + (m : Int)) % (m : Int)).toNat, by rw [e]; omega, by omega⟩

/-- How far bits are turned: a change of k bits, from the bit p on. -/
def Turned (S : List UInt8) (p k : Nat) (l : List UInt8) : Prop := l.length = S.length ∧ ∃ W < 2 ^ k, val l = val S ^^^ 2 ^ p * W
theorem Turned.zero (S : List UInt8) (p : Nat) : Turned S p 0 S := ⟨rfl, 0, by simp, by simp⟩
theorem Turned.stay {S l : List UInt8} {p k : Nat} (h : Turned S p k l) : Turned S p (k + 1) l := by
  obtain ⟨h1, W, h2, h3⟩ := h
  exact ⟨h1, W, Nat.lt_trans h2 (Nat.pow_lt_pow_right (by omega) (by omega)), h3⟩
theorem Turned.step {S l : List UInt8} {p k q : Nat} (h : Turned S p k l) (hq : q = p + k) (hl : q / 8 < l.length) (x : UInt8) (hx : x.toNat = l[q / 8].toNat ^^^ 2 ^ (q % 8)) : Turned S p (k + 1) (l.set (q / 8) x) := by
  obtain ⟨h1, W, h2, h3⟩ := h
  exact ⟨by rw [List.length_set]; exact h1, burst_step h2 h3 hq hl hx⟩
theorem Turned.seen {S l : List UInt8} {p : Nat} (h : Turned S p 32 l) (hp : p < 8 * S.length) : l = S ∨ crcOn 0 l ≠ crcOn 0 S := by
  obtain ⟨h1, W, h2, h3⟩ := h
  exact crc_burst S l h1.symm p W (by omega) h2 h3

theorem turn_byte (y : UInt8) (r : Nat) (h : r < 8) : ∃ z : UInt8, Hid (z.toNat = y.toNat ^^^ 2 ^ r) ∧ bits .xor .u8 (y.toNat : Int) (IntKind.u8.wrap ((2 : Int) ^ r)) = (z.toNat : Int) := by
  have hy := y.toNat_lt
  have hr : 2 ^ r < 256 := Nat.lt_of_lt_of_le (Nat.pow_lt_pow_right (by omega) h) (by decide)
  have e0 : ((2 : Int) ^ r) = ((2 ^ r : Nat) : Int) := by simp
  rw [e0, IntKind.wrap_u8']
  generalize 2 ^ r = m at hr
  have hx : y.toNat ^^^ m < 256 := Nat.xor_lt_two_pow (n := 8) (by omega) (by omega)
  have hz : (UInt8.ofNat (y.toNat ^^^ m)).toNat = y.toNat ^^^ m := by rw [UInt8.toNat_ofNat', Nat.mod_eq_of_lt hx]
  exact ⟨UInt8.ofNat (y.toNat ^^^ m), hz, by rw [hz, show (m : Int) % 256 = (m : Int) by omega, u8_xor_nat _ _ (by omega) hr]⟩

set_option maxRecDepth 100000 in
set_option maxHeartbeats 2000000 in
theorem walk (s t : ByteArray) (hs : s.size ≤ maxLen) (hst : (s.size ≤ 200 ∧ t = s) ∨ (200 < s.size ∧ s.extract 0 200 = t)) (at' : Int) (h1 : -9223372036854775808 ≤ at') (h2 : at' ≤ 9223372036854775807) (d : Nat) (hd : d < 4294967296) (hd0 : 0 < d) (h0 : 0 < t.size) (h4 : t.size ≤ 200) (w : World) :
    Calls Try.prog 5 #[.string s, .int .i64 at', .int .u32 d] w (BoolB true w) := by
  unfold maxLen at hs
  obtain ⟨cap, w0, hcap, hmk, hrow, hbel⟩ := BRow.made t w
  have HROW := Lib.hid hrow
  have HBEL := Lib.hid hbel
  clear hrow hbel
  have hne : ¬ t = ByteArray.empty := fun e => by rw [e] at h0; simp at h0
  have z1 : ((t.size : Int) == 0) = false := by simp; omega
  have z2 : ((d : Int) == 0) = false := by simp; omega
  rcases hst with ⟨h5, rfl⟩ | ⟨h5, hx⟩
  all_goals
    go_enter Try.func5, Try.ntmps5
    go_wp2
    obtain ⟨p0, hp0, hp8⟩ := place at' (8 * t.size) (by omega) (by omega)
    rw [show ((8 * t.size : Nat) : Int) = 8 * (t.size : Int) by simp] at hp0
    rw [hp0]
    clear hmk hp0 z1 z2 hne h1 h2
    go_loopw [36] (fun i wr => ∃ (k : Nat) (l : List UInt8), k ≤ 32 ∧ i = .int .i64 k ∧ Hid (Turned t.data.toList p0 k l) ∧ Kept w w.heap.size l wr) (fun i _ => 32 - (intOf i).toNat)
    case atStart => exact ⟨0, t.data.toList, Nat.zero_le _, rfl, Turned.zero _ _, HROW.out, HBEL.out⟩
    case round =>
      obtain ⟨k, l, hk, rfl, HT, hkept⟩ := hrel
      by_cases hlt : k < 32
      · by_cases hin : p0 + k < 8 * t.size
        · have hll : l.length = t.size := by rw [HT.out.1]; simp
          obtain ⟨q, HQ, hqa, hqc⟩ : ∃ q : Nat, Hid (q = p0 + k) ∧ q ≤ p0 + k ∧ p0 + k ≤ q := ⟨_, rfl, Nat.le_refl _, Nat.le_refl _⟩
          have hkl : q / 8 < l.length := by omega
          have hks : q / 8 < t.size := by omega
          have hfree := hkept.1.free hkl
          have HST := Lib.hid (fun x hx => HT.out.step HQ.out hkl x hx)
          have HSK := Lib.hid (fun x {z} hz => hkept.1.set hkl x (x := z) hz)
          have HSB := Lib.hid (fun u => hkept.2.setCell (p := ⟨w.heap.size, q / 8, none⟩) (Nat.le_refl _) u)
          obtain ⟨y, HY, hcell⟩ : ∃ y : UInt8, Hid (l[q / 8] = y) ∧ wr.cell? ⟨w.heap.size, q / 8, none⟩ = some (.int .u8 (y.toNat : Int)) := ⟨l[q / 8], Lib.hid rfl, hkept.1.cell hkl⟩
          clear hll
          go_wp2
          · have hqi : (p0 : Int) + (k : Int) = (q : Int) := by omega
            rw [hqi]
            clear hqi
            have t1 : (q : Int).tdiv 8 = ((q / 8 : Nat) : Int) := by rw [Int.tdiv_eq_ediv_of_nonneg (by omega)]; omega
            have t2 : (q : Int).tmod 8 = ((q % 8 : Nat) : Int) := by rw [Int.tmod_eq_emod_of_nonneg (by omega)]; omega
            have t3 : IntKind.i64.wrap ((q / 8 : Nat) : Int) = ((q / 8 : Nat) : Int) := IntWalk.i64_in _ (by omega)
            have t4 : IntKind.i64.wrap ((q % 8 : Nat) : Int) = ((q % 8 : Nat) : Int) := IntWalk.i64_in _ (by omega)
            have t5 : (0 : Int) ≤ ((q / 8 : Nat) : Int) := by omega
            have t6 : ((q / 8 : Nat) : Int) < (t.size : Int) := by omega
            have t7 : (0 : Int) ≤ ((q % 8 : Nat) : Int) := by omega
            have t8 : ((q % 8 : Nat) : Int) < 8 := by omega
            generalize q / 8 = e8 at t1 t3 t5 t6 hcell hfree hkl hks HST HSK HSB HY
            generalize q % 8 = r at t2 t4 t7 t8 HST
            obtain ⟨z, HZ, hxo⟩ := turn_byte y r (by omega)
            go_still_tail 9, (by kernel_rfl)
            change wpList _ _ _ _ _ wr.drew
            clear t1 t2 t3 t4
            go_wp2
            go_roundw
            case rel => exact ⟨k + 1, _, by omega, by go_num, HST.out z (by rw [HY.out]; exact HZ.out), Kept.drew ⟨HSK.out z rfl, HSB.out _⟩⟩
            case measure => simp [intOf]; omega
          · go_roundw
            case rel => exact ⟨k + 1, l, by omega, by go_num, HT.out.stay, hkept⟩
            case measure => simp [intOf]; omega
        · go_wp2
          all_goals
            go_roundw
            case rel => exact ⟨k + 1, l, by omega, by go_num, HT.out.stay, hkept⟩
            case measure => simp [intOf]; omega
      · obtain rfl : k = 32 := by omega
        have hlen : l.length = t.size := by rw [HT.out.1]; simp
        have HLEN := Lib.hid hlen
        clear hlen
        rcases HT.out.seen (by simpa using hp8) with hsame | hdiff
        · have hX : ByteArray.mk l.toArray = t := by rw [hsame]
          have HX := Lib.hid hX
          clear hX hsame
          go_wp2_with fail
          refine (alive_kept hkept).mono ?_
          rintro e x1 ⟨rfl, hk1⟩
          have c1 := hk1.1.back (cap := cap) HLEN.out
          rw [HX.out] at c1
          go_wp2_with fail
          go_ret
          exact ⟨rfl, hk1.2⟩
        · obtain ⟨X, hX, hXl⟩ : ∃ X : ByteArray, ByteArray.mk l.toArray = X ∧ X.data.toList = l := ⟨_, rfl, by simp⟩
          have hXs : X.size ≤ maxLen := by
            have e : X.size = t.size := by rw [← HLEN.out, ← hXl]; simp
            unfold maxLen; omega
          obtain ⟨nX, EX⟩ : ∃ n, Hid (crcOn 0 X.data.toList = n) := ⟨_, rfl⟩
          obtain ⟨nS, ES⟩ : ∃ n, Hid (crcOn 0 t.data.toList = n) := ⟨_, rfl⟩
          have hn : ¬ nX = nS := fun e => hdiff (by rw [← hXl, EX.out, ES.out, e])
          have hXn : ¬ X = t := fun e => hn (by rw [← EX.out, ← ES.out, e])
          have hn1 : ((nX : Int) == (nS : Int)) = false := by simp; omega
          have hn2 : ((nX : Int) != (nS : Int)) = true := by simp; omega
          have MX := Lib.hid hXs
          have MS : Hid (t.size ≤ maxLen) := by unfold Hid maxLen; omega
          have HX := Lib.hid hX
          clear hX hXl hXs hdiff
          go_wp2_with fail
          refine (alive_kept hkept).mono ?_
          rintro e x1 ⟨rfl, hk1⟩
          have c1 := hk1.1.back (cap := cap) HLEN.out
          rw [HX.out] at c1
          go_wp2_with fail
          · go_ret
            exact ⟨rfl, hk1.2⟩
          · refine (Of_kept MX.out EX.out hk1).mono ?_
            rintro e x2 ⟨rfl, hk2⟩
            clear c1 hk1
            go_wp2_with fail
            refine (Of_kept MS.out ES.out hk2).mono ?_
            rintro e x3 ⟨rfl, hk3⟩
            clear hk2
            go_wp2_with fail
            go_ret
            exact ⟨rfl, hk3.2⟩

set_option maxRecDepth 100000 in
set_option maxHeartbeats 2000000 in
theorem walk_none (s : ByteArray) (hs : s.size ≤ maxLen) (at' : Int) (d : Nat) (hd : d < 4294967296) (h : s.size = 0 ∨ d = 0) (w : World) :
    Calls Try.prog 5 #[.string s, .int .i64 at', .int .u32 d] w (BoolB true w) := by
  unfold maxLen at hs
  by_cases h0 : s.size = 0
  · obtain rfl : s = ByteArray.empty := by
      rcases s with ⟨⟨l⟩⟩
      cases l with
      | nil => rfl
      | cons a l => simp [ByteArray.size] at h0
    clear h0 h hs
    go_enter Try.func5, Try.ntmps5
    go_wp2_with (go_at_call 9; refine (alive_any _).mono ?_; rintro e w' ⟨rfl, hb⟩)
    go_ret
    exact ⟨rfl, hb⟩
  · obtain rfl : d = 0 := by omega
    have h0' : 0 < s.size := by omega
    clear h h0
    rcases Nat.lt_or_ge 200 s.size with h4 | h4
    all_goals
      go_enter Try.func5, Try.ntmps5
      go_wp2_with (go_at_call 9; refine (alive_any _).mono ?_; rintro e w' ⟨rfl, hb⟩)
      all_goals
        go_ret
        exact ⟨rfl, hb⟩

theorem walk_all (s : ByteArray) (hs : s.size ≤ maxLen) (at' : Int) (h1 : -9223372036854775808 ≤ at') (h2 : at' ≤ 9223372036854775807) (d : Nat) (hd : d < 4294967296) (w : World) :
    Calls Try.prog 5 #[.string s, .int .i64 at', .int .u32 d] w (BoolB true w) := by
  by_cases h : s.size = 0 ∨ d = 0
  · exact walk_none s hs at' d hd h w
  · by_cases h4 : s.size ≤ 200
    · exact walk s s hs (.inl ⟨h4, rfl⟩) at' h1 h2 d hd (by omega) (by omega) h4 w
    · exact walk s (s.extract 0 200) hs (.inr ⟨by omega, rfl⟩) at' h1 h2 d hd (by omega) (by simp; omega) (by simp; omega) w

theorem lifted (os : Os) (started : os.Started) (H : Type) (enc : TypeId × Value → H) :
    ReturnsInHanded {} Try.checked os 5 .any (Rows.checkBurstsSpec.pre6 enc Try.prog Try.f5 Rows.checkBurstsRow.domain false) (Rows.checkBurstsSpec.post enc Try.prog Try.f5 false true false false) := by
  refine returnsInHanded_of_change (C := Try.checked) own started (by kernel_rfl) Try.func5
    (ChangeSpec.witness6 (enc := enc) (C := Try.checked) false ⟨#[], #[.string ByteArray.empty, .int .i64 0, .int .u32 0], []⟩ 8 (by kernel_rfl) (by kernel_rfl) (by kernel_rfl) (by kernel_rfl)) ?_
  intro W base args ds gs before hval0 hW hcnd _
  have hval : ∀ (j : Nat) t v, Try.f5.params[j]? = some t → args[j]? = some v → Value.okWide Try.prog W .any base t v := hval0
  have hW' := hW
  obtain ⟨p, q, hA0, hV, rfl, hfz, hnd⟩ := hW
  have hA : DataW.TrodAll enc Try.prog W 0 (fun _ => true) true Try.f5.params.toList args.toList ds p := hA0
  rw [Try.params5] at hA hval
  obtain ⟨v0, vs0, d0, ds0, p0, q0, hargs, rfl, rfl, h0, r0⟩ := trodAll_cons hA
  obtain ⟨v1, vs1, d1, ds1, p1, q1, rfl, rfl, rfl, h1, r1⟩ := trodAll_cons r0
  obtain ⟨v2, vs2, d2, ds2, p2, q2, rfl, rfl, rfl, h2, r2⟩ := trodAll_cons r1
  obtain ⟨rfl, rfl, rfl⟩ := trodAll_nil r2
  obtain rfl : args = #[v0, v1, v2] := by cases args; simp_all
  obtain ⟨rfl, rfl⟩ := trodVars_none hV
  obtain ⟨a0, rfl, rfl, rfl, w0⟩ := open_string Try.underlying9 (hval 0 9 v0 rfl rfl) h0
  obtain ⟨a1, rfl, rfl, rfl, w1⟩ := open_int Try.underlying3 (hval 1 3 v1 rfl rfl) h1
  obtain ⟨a2, rfl, rfl, rfl, w2⟩ := open_int Try.underlying22 (hval 2 22 v2 rfl rfl) h2
  clear hA0 hval0
  obtain ⟨b0, b1⟩ := bounds_i64 w1
  obtain ⟨b2, b3⟩ := bounds_u32 w2
  obtain ⟨d, rfl⟩ := Int.eq_ofNat_of_zero_le b2
  refine (walk_all a0 w0 a1 b0 b1 d (by omega) W).mono fun e W' ⟨he, bel⟩ => ?_
  subst he
  exact ⟨_, rfl, _, _, _, [], [], [], hW', trodAll_mk1 (shut_bool Try.underlying4 _), (trodAll_cons_mk (shut_string Try.underlying9 w0) (trodAll_cons_mk (shut_int Try.underlying3 w1) (trodAll_cons_mk (shut_int Try.underlying22 w2) trodAll_mk0))), rfl, bel.frame _, fun h => by cases h⟩

theorem over : Rows.checkBurstsRow.holds Try.pinned (OpenSpec.ofChange Rows.checkBurstsSpec) :=
  OpenClaim.holds_of_wide 5 Try.f5 rfl rfl rfl rfl rfl rfl rfl ⟨rfl, rfl, rfl, rfl, rfl⟩ rfl rfl rfl rfl rfl (by kernel_rfl) Try.func5 (by kernel_rfl)
    (of_decide_eq_true (by kernel_rfl)) (by unfold Func.isWrapper; first | (rw [if_pos (by decide +kernel)]; kernel_rfl) | (rw [if_neg (by decide +kernel)]; exact ⟨rfl, rfl⟩))
    (fun os started H enc _ => lifted os started H enc)

theorem proved : Rows.CheckBurstsSaid := over
#print axioms proved
end Go.Proofs.Ythfiojiihjmndaa.checkBursts
