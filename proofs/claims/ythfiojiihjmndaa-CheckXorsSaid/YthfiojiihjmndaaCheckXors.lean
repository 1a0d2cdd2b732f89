/-
  Proved: for any three texts the law CheckXors returns true: of three texts of one length, xored byte by byte, the check is the checks of the three, xored. No condition.
-/
import Derived.Test.YthfiojiihjmndaaRows
import Derived.Test.YthfiojiihjmndaaBRow
import Derived.Deep.RegionHeld3
import Derived.StillTailTactics
import Derived.ShutString
import Derived.ChangeOld
import Derived.Deep.QuietTactic
import Derived.BigQuiet
import Derived.WalkLawsBesides
import Derived.WalkSpells
namespace Go.Proofs.Ythfiojiihjmndaa.checkXors
open Go.ChangeShapes Go.WideShapes Go.ChangeAt Go.RowKit Go.Lib Go.Proofs.Ythfiojiihjmndaa.Crc
set_option linter.unusedVariables false
open Go.ChangeMaps (open_string shut_string)

theorem own : ownKnob Try.prog.godebug = none := by kernel_rfl

theorem min4 (x y z : Nat) (w : World) : ∃ n : Nat, n ≤ x ∧ n ≤ y ∧ n ≤ z ∧ n ≤ 200 ∧ (Builtin.min_ #[3, 3, 3, 3] 3 #[.int .i64 (x : Int), .int .i64 (y : Int), .int .i64 (z : Int), .int .i64 200]).run Try.prog w = .ok (.int .i64 (n : Int)) w := by
  refine ⟨min (min (min x y) z) 200, by omega, by omega, by omega, by omega, ?_⟩
  have e : ∀ p q : Nat, (if (q : Int) < (p : Int) then (q : Int) else (p : Int)) = ((min p q : Nat) : Int) := fun p q => by split <;> omega
  simp [Builtin.min_, Builtin.min2]
  (repeat' split) <;> omega

/-- How far the bytes are xored. -/
def Mid (A B C : List UInt8) (k : Nat) (l : List UInt8) : Prop :=
  l.length = A.length ∧ ∀ i (h : i < l.length) (h1 : i < A.length) (h2 : i < B.length) (h3 : i < C.length), l[i].toNat = if i < k then A[i].toNat ^^^ B[i].toNat ^^^ C[i].toNat else A[i].toNat
theorem Mid.zero (A B C : List UInt8) : Mid A B C 0 A := ⟨rfl, fun i _ _ _ _ => by rw [if_neg (by omega)]⟩
theorem Mid.step {A B C l : List UInt8} {k : Nat} (h : Mid A B C k l) (hl : k < l.length) (hB : k < B.length) (hC : k < C.length) (x : UInt8) (hx : x.toNat = l[k].toNat ^^^ (B[k].toNat ^^^ C[k].toNat)) : Mid A B C (k + 1) (l.set k x) := by
  refine ⟨by rw [List.length_set]; exact h.1, fun i h0 h1 h2 h3 => ?_⟩
  have h0' : i < l.length := by simpa using h0
  by_cases e : k = i
  · subst e
    rw [List.getElem_set_self, hx, h.2 k h0' h1 h2 h3, if_neg (by omega), if_pos (by omega), Nat.xor_assoc]
  · rw [List.getElem_set_ne e, h.2 i h0' h1 h2 h3]
    by_cases e' : i < k
    · rw [if_pos e', if_pos (by omega)]
    · rw [if_neg e', if_neg (by omega)]
theorem Mid.all {A B C l : List UInt8} (h : Mid A B C A.length l) (hB : B.length = A.length) (hC : C.length = A.length) : crcOn 0 l = crcOn 0 A ^^^ crcOn 0 B ^^^ crcOn 0 C :=
  crc_xor3 A B C l h.1.symm (by rw [h.1, hB]) (by rw [h.1, hC]) (fun i h0 h1 h2 h3 => by rw [h.2 i h0 h1 h2 h3, if_pos h1])
theorem byte_xor (x y : UInt8) (z : UInt8) : (x ^^^ (y ^^^ z)).toNat = x.toNat ^^^ (y.toNat ^^^ z.toNat) := by simp
theorem cut_at (s : ByteArray) (n k : Nat) (hn : n ≤ s.size) (hk : k < n) (h : k < (s.extract 0 n).data.toList.length) : (s.extract 0 n).data.toList[k] = s[k] := by
  simp [ByteArray.getElem_eq_getElem_data]

set_option maxRecDepth 100000 in
set_option maxHeartbeats 2000000 in
theorem walk (a b c : ByteArray) (ha : a.size ≤ maxLen) (hb : b.size ≤ maxLen) (hc : c.size ≤ maxLen) (w : World) : Calls Try.prog 6 #[.string a, .string b, .string c] w (BoolB true w) := by
  unfold maxLen at ha hb hc
  obtain ⟨n, hna, hnb, hnc, hn2, hmin⟩ := min4 a.size b.size c.size w
  obtain ⟨A, HA, hA⟩ : ∃ A : ByteArray, Hid (a.extract 0 n = A) ∧ A.size = n := ⟨_, rfl, by simp; omega⟩
  obtain ⟨cap, w0, hcap, hmk, hrow, hbel⟩ := BRow.made A w
  rw [hA] at hmk
  have hx := HA.out
  have HROW := Lib.hid hrow
  have HBEL := Lib.hid hbel
  have HLEN : Hid (A.data.toList.length = n) := by unfold Hid; simpa using hA
  clear hrow hbel hA
  go_enter Try.func6, Try.ntmps6
  go_wp2
  have LB : (b.extract 0 n).data.toList.length = n := by simp; omega
  have LC : (c.extract 0 n).data.toList.length = n := by simp; omega
  have HLB := Lib.hid LB
  have HLC := Lib.hid LC
  clear LB LC hmin hmk
  go_loopw [22] (fun i wr => ∃ (k : Nat) (l : List UInt8), k ≤ n ∧ i = .int .i64 k ∧ Hid (Mid A.data.toList (b.extract 0 n).data.toList (c.extract 0 n).data.toList k l) ∧ Kept w w.heap.size l wr) (fun i _ => n - (intOf i).toNat)
  case atStart => exact ⟨0, A.data.toList, Nat.zero_le _, rfl, Mid.zero _ _ _, HROW.out, HBEL.out⟩
  case round =>
    obtain ⟨k, l, hk, rfl, HM, hkept⟩ := hrel
    have hll : l.length = n := by rw [HM.out.1]; exact HLEN.out
    have HLL := Lib.hid hll
    by_cases hlt : k < n
    · have hkl : k < l.length := by omega
      have hkb : k < b.size := by omega
      have hkc : k < c.size := by omega
      have hcell := hkept.1.cell hkl
      have hfree := hkept.1.free hkl
      have HX : Hid ((l[k] ^^^ (b[k] ^^^ c[k])).toNat = l[k].toNat ^^^ (b[k].toNat ^^^ c[k].toNat)) := byte_xor _ _ _
      have b1 := b[k].toNat_lt
      have b2 := c[k].toNat_lt
      have b3 := l[k].toNat_lt
      have hp : bits .xor .u8 (b[k].toNat : Int) (c[k].toNat : Int) = ((b[k].toNat ^^^ c[k].toNat : Nat) : Int) := u8_xor_nat _ _ (by omega) (by omega)
      have b4 : b[k].toNat ^^^ c[k].toNat < 256 := Nat.xor_lt_two_pow (n := 8) (by omega) (by omega)
      have hq : bits .xor .u8 (l[k].toNat : Int) ((b[k].toNat ^^^ c[k].toNat : Nat) : Int) = ((l[k].toNat ^^^ (b[k].toNat ^^^ c[k].toNat) : Nat) : Int) := u8_xor_nat _ _ (by omega) (by omega)
      have HM1 := Lib.hid (HM.out.step hkl (by rw [HLB.out]; omega) (by rw [HLC.out]; omega) (l[k] ^^^ (b[k] ^^^ c[k])) (by rw [HX.out, cut_at b n k hnb hlt, cut_at c n k hnc hlt]))
      have HK1 := Lib.hid (hkept.1.set hkl (l[k] ^^^ (b[k] ^^^ c[k])) (by rw [HX.out]))
      have HB1 := Lib.hid (hkept.2.setCell (p := ⟨w.heap.size, k, none⟩) (Nat.le_refl _) (.int .u8 ((l[k].toNat ^^^ (b[k].toNat ^^^ c[k].toNat) : Nat) : Int)))
      generalize l[k].toNat ^^^ (b[k].toNat ^^^ c[k].toNat) = q at hq HX HK1 HB1
      generalize b[k].toNat ^^^ c[k].toNat = p at hp hq HX b4
      generalize l[k].toNat = x at hcell hq HX b3
      clear b1 b2 b3 b4 hll
      go_wp2
      go_still_tail 12, (by kernel_rfl)
      go_wp2
      go_roundw
      case rel => exact ⟨k + 1, _, by omega, by go_num, HM1.out, Kept.drew ⟨HK1.out, HB1.out⟩⟩
      case measure => simp [intOf]; omega
    · obtain rfl : n = k := by omega
      obtain ⟨B, HBB, MB⟩ : ∃ B : ByteArray, Hid (b.extract 0 n = B) ∧ Hid (B.size ≤ maxLen) := ⟨_, rfl, by unfold Hid maxLen; simp; omega⟩
      obtain ⟨C, HCC, MC⟩ : ∃ C : ByteArray, Hid (c.extract 0 n = C) ∧ Hid (C.size ≤ maxLen) := ⟨_, rfl, by unfold Hid maxLen; simp; omega⟩
      have MA : Hid (A.size ≤ maxLen) := by unfold Hid maxLen; rw [← HA.out]; simp; omega
      have MX : Hid ((ByteArray.mk l.toArray).size ≤ maxLen) := by unfold Hid maxLen; show l.toArray.size ≤ _; simp; omega
      rw [HBB.out, HCC.out] at HM
      rw [HBB.out] at HLB
      rw [HCC.out] at HLC
      have HCRC : Hid (crcOn 0 l = crcOn 0 A.data.toList ^^^ crcOn 0 B.data.toList ^^^ crcOn 0 C.data.toList) := by
        have hM := HM.out
        rw [← HLEN.out] at hM
        exact hM.all (by rw [HLB.out, HLEN.out]) (by rw [HLC.out, HLEN.out])
      have hxb := HBB.out
      have hxc := HCC.out
      obtain ⟨nA, EA, lA⟩ : ∃ n, Hid (crcOn 0 A.data.toList = n) ∧ n < 4294967296 := ⟨_, rfl, crcOn_lt (by omega) _⟩
      obtain ⟨nB, EB, lB⟩ : ∃ n, Hid (crcOn 0 B.data.toList = n) ∧ n < 4294967296 := ⟨_, rfl, crcOn_lt (by omega) _⟩
      obtain ⟨nC, EC, lC⟩ : ∃ n, Hid (crcOn 0 C.data.toList = n) ∧ n < 4294967296 := ⟨_, rfl, crcOn_lt (by omega) _⟩
      obtain ⟨nX, EX⟩ : ∃ n, Hid (crcOn 0 (ByteArray.mk l.toArray).data.toList = n) := ⟨_, rfl⟩
      have EE : Hid (nX = nA ^^^ nB ^^^ nC) := by unfold Hid; rw [← EX.out, ← EA.out, ← EB.out, ← EC.out, ← HCRC.out]
      have lAB : nA ^^^ nB < 4294967296 := Nat.xor_lt_two_pow (n := 32) (by omega) (by omega)
      have hab : bits .xor .u32 (nA : Int) (nB : Int) = ((nA ^^^ nB : Nat) : Int) := u32_xor_nat _ _ lA lB
      have habc : bits .xor .u32 ((nA ^^^ nB : Nat) : Int) (nC : Int) = (nX : Int) := by rw [EE.out]; exact u32_xor_nat _ _ lAB lC
      clear EE HCRC
      generalize nA ^^^ nB = nAB at hab habc lAB
      obtain ⟨X, hX⟩ : ∃ X : ByteArray, ByteArray.mk l.toArray = X := ⟨_, rfl⟩
      have hconv : ∀ w' : World, Kept w w.heap.size l w' → (convert 32 9 (.slice (some ⟨w.heap.size, 0, none⟩) n cap)).run Try.prog w' = .ok (.string X) w' := fun w' h => by rw [h.1.back HLL.out, hX]
      rw [hX] at MX EX
      have i1 : (0 : Int) ≤ (n : Int) := by omega
      have i2 : (n : Int) ≤ (a.size : Int) := by omega
      have i3 : (n : Int) ≤ (b.size : Int) := by omega
      have i4 : (n : Int) ≤ (c.size : Int) := by omega
      clear hX hll HM HLB HLC
      go_wp2
      go_region_held3 (fun w' => Kept w w.heap.size l w') (first | assumption | exact Kept.drew (by assumption))
        (first
          | (go_at_call 9; refine (alive_kept (by assumption)).mono ?_; rintro e x1 ⟨rfl, hk1⟩)
          | (go_at_call 10; (with_reducible refine (Of_kept MX.out EX.out (by assumption)).mono ?_); rintro e x1 ⟨rfl, hk1⟩)
          | (go_at_call 10; (with_reducible refine (Of_kept MA.out EA.out (by assumption)).mono ?_); rintro e x1 ⟨rfl, hk1⟩)
          | (go_at_call 10; (with_reducible refine (Of_kept MB.out EB.out (by assumption)).mono ?_); rintro e x1 ⟨rfl, hk1⟩)
          | (go_at_call 10; (with_reducible refine (Of_kept MC.out EC.out (by assumption)).mono ?_); rintro e x1 ⟨rfl, hk1⟩))
      go_wp2
      go_ret
      exact ⟨rfl, (show Kept w w.heap.size l _ by assumption).2⟩

theorem lifted (os : Os) (started : os.Started) (H : Type) (enc : TypeId × Value → H) :
    ReturnsInHanded {} Try.checked os 6 .any (Rows.checkXorsSpec.pre6 enc Try.prog Try.f6 Rows.checkXorsRow.domain false) (Rows.checkXorsSpec.post enc Try.prog Try.f6 false true false false) := by
  refine returnsInHanded_of_change (C := Try.checked) own started (by kernel_rfl) Try.func6
    (ChangeSpec.witness6 (enc := enc) (C := Try.checked) false ⟨#[], #[.string ByteArray.empty, .string ByteArray.empty, .string ByteArray.empty], []⟩ 8 (by kernel_rfl) (by kernel_rfl) (by kernel_rfl) (by kernel_rfl)) ?_
  intro W base args ds gs before hval0 hW hcnd _
  have hval : ∀ (j : Nat) t v, Try.f6.params[j]? = some t → args[j]? = some v → Value.okWide Try.prog W .any base t v := hval0
  have hW' := hW
  obtain ⟨p, q, hA0, hV, rfl, hfz, hnd⟩ := hW
  have hA : DataW.TrodAll enc Try.prog W 0 (fun _ => true) true Try.f6.params.toList args.toList ds p := hA0
  rw [Try.params6] at hA hval
  obtain ⟨v0, vs0, d0, ds0, p0, q0, hargs, rfl, rfl, h0, r0⟩ := trodAll_cons hA
  obtain ⟨v1, vs1, d1, ds1, p1, q1, rfl, rfl, rfl, h1, r1⟩ := trodAll_cons r0
  obtain ⟨v2, vs2, d2, ds2, p2, q2, rfl, rfl, rfl, h2, r2⟩ := trodAll_cons r1
  obtain ⟨rfl, rfl, rfl⟩ := trodAll_nil r2
  obtain rfl : args = #[v0, v1, v2] := by cases args; simp_all
  obtain ⟨rfl, rfl⟩ := trodVars_none hV
  obtain ⟨a0, rfl, rfl, rfl, w0⟩ := open_string Try.underlying9 (hval 0 9 v0 rfl rfl) h0
  obtain ⟨a1, rfl, rfl, rfl, w1⟩ := open_string Try.underlying9 (hval 1 9 v1 rfl rfl) h1
  obtain ⟨a2, rfl, rfl, rfl, w2⟩ := open_string Try.underlying9 (hval 2 9 v2 rfl rfl) h2
  clear hA0 hval0
  refine (walk a0 a1 a2 w0 w1 w2 W).mono fun e W' ⟨he, bel⟩ => ?_
  subst he
  exact ⟨_, rfl, _, _, _, [], [], [], hW', trodAll_mk1 (shut_bool Try.underlying4 _), (trodAll_cons_mk (shut_string Try.underlying9 w0) (trodAll_cons_mk (shut_string Try.underlying9 w1) (trodAll_cons_mk (shut_string Try.underlying9 w2) trodAll_mk0))), rfl, bel.frame _, fun h => by cases h⟩

theorem over : Rows.checkXorsRow.holds Try.pinned (OpenSpec.ofChange Rows.checkXorsSpec) :=
  OpenClaim.holds_of_wide 6 Try.f6 rfl rfl rfl rfl rfl rfl rfl ⟨rfl, rfl, rfl, rfl, rfl⟩ rfl rfl rfl rfl rfl (by kernel_rfl) Try.func6 (by kernel_rfl)
    (of_decide_eq_true (by kernel_rfl)) (by unfold Func.isWrapper; first | (rw [if_pos (by decide +kernel)]; kernel_rfl) | (rw [if_neg (by decide +kernel)]; exact ⟨rfl, rfl⟩))
    (fun os started H enc _ => lifted os started H enc)

theorem proved : Rows.CheckXorsSaid := over
#print axioms proved
end Go.Proofs.Ythfiojiihjmndaa.checkXors
