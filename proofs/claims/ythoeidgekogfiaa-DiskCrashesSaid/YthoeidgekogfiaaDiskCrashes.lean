/-
  Proved: for any disk, any number and any tear the law DiskCrashes returns true: each byte of a sector behind a crash is one of the sector that was safe, or of a write at its place. No condition.
-/
import Derived.Test.YthoeidgekogfiaaRows
import Derived.Test.YthoeidgekogfiaaDiskArg
import Derived.Test.YthoeidgekogfiaaDiskMath
import Derived.Test.YthoeidgekogfiaaDiskAlive
namespace Go.Proofs.Ythoeidgekogfiaa.diskCrashes
open Go.ChangeShapes Go.WideShapes Go.ChangeAt Go.RowKit Go.Lib Go.Proofs.Ythoeidgekogfiaa.Disk
open Go.ChangeMaps (open_string shut_string)
set_option linter.unusedVariables false

theorem own : ownKnob Try.prog.godebug = none := by kernel_rfl
theorem laidOut : laidOutB Try.prog = true := by kernel_rfl

theorem small_few {ls : List ByteArray} {ws : List (Int × ByteArray)} (h1 : ls.length ≤ 20) (h2 : ws.length ≤ 66) (h3 : ∀ t ∈ ls, t.size ≤ 66) (h4 : ∀ y ∈ ws, y.2.size ≤ 66) : smallP ls ws :=
  ⟨by omega, by omega, fun j h => by have := h3 _ (List.getElem_mem h); omega, fun j h => by have := h4 _ (List.getElem_mem h); omega⟩

/-- At the head of a loop that only reads what lay when it began. -/
def At1 (z : World) (n : Nat) (i : Value) (wr : World) : Prop := ∃ k : Nat, k ≤ n ∧ i = .int .i64 k ∧ Below z.heap.size z wr

theorem drawnB (w : World) (n : Nat) : Below w.heap.size w (w.drewN n) := ⟨rfl, rfl, rfl, Nat.le_refl _, fun _ _ => rfl⟩
/-- Byte k of x is that of y, or that of one of the first q writes at place a. -/
def Fnd (x y : ByteArray) (ws : List (Int × ByteArray)) (a k q : Nat) : Prop := byt x k = byt y k ∨ ∃ j, j < q ∧ ∃ h : j < ws.length, ws[j].1 = (a : Int) ∧ byt ws[j].2 k = byt x k
noncomputable instance (x y : ByteArray) (ws : List (Int × ByteArray)) (a k q : Nat) : Decidable (Fnd x y ws a k q) := Classical.propDecidable _
theorem Fnd_step {x y : ByteArray} {ws : List (Int × ByteArray)} {a k q : Nat} (h : q < ws.length) : Fnd x y ws a k (q + 1) ↔ Fnd x y ws a k q ∨ (ws[q].1 = (a : Int) ∧ byt ws[q].2 k = byt x k) := by
  unfold Fnd
  constructor
  · rintro (h1 | ⟨j, hj, hjl, h2, h3⟩)
    · exact .inl (.inl h1)
    · by_cases e : j = q
      · subst e; exact .inr ⟨h2, h3⟩
      · exact .inl (.inr ⟨j, by omega, hjl, h2, h3⟩)
  · rintro ((h1 | ⟨j, hj, hjl, h2, h3⟩) | ⟨h2, h3⟩)
    · exact .inl h1
    · exact .inr ⟨j, by omega, hjl, h2, h3⟩
    · exact .inr ⟨q, by omega, h, h2, h3⟩
/-- At the head of the loop over the writes. -/
def At2 (z : World) (n : Nat) (F : Nat → Prop) [∀ q, Decidable (F q)] (j f : Value) (wr : World) : Prop := ∃ q : Nat, q ≤ n ∧ j = .int .i64 q ∧ f = .bool (decide (F q)) ∧ Below z.heap.size z wr

set_option maxRecDepth 100000 in
set_option maxHeartbeats 4000000 in
theorem walk0 (vS vW : Value) (kp : Nat) (hkp : kp < 18446744073709551616) (t : Int) (w : World) (hS : ArgS w vS) (hW : ArgW w vW) : Calls Try.prog 5 #[.agg #[vS, vW], .int .u64 kp, .int .i64 t] w (BoolB true w) := by
  have HFE := Lib.hid (fun o => few_any (ArgS.below hS (al w o)) (ArgW.below hW (al w o)))
  obtain ⟨aS, len, cap, rfl, _⟩ := hS
  obtain ⟨aW, lenW, capW, rfl, _⟩ := hW
  go_enter Try.func5, Try.ntmps5
  go_wp2_with fail
  refine (HFE.out _).mono ?_
  rintro e x ⟨uS, uW, ls, ws, rfl, h1, h2, h3, h4, hS, hW, hx⟩
  have HDX := Lib.hid (DBox.store ((Box2.made w (.slice aS len cap) (.slice aW lenW capW) 25).below hx) ⟨hS.1, by simpa using hS.2⟩ ⟨hW.1, by simpa using hW.2⟩)
  have HBX := Lib.hid (below_set2 (b := w.heap.size) (u0 := uS) (u1 := uW) (below_trans (al w _) hx) (Nat.le_refl _))
  have HSM := Lib.hid (small_few h1 h2 h3 h4)
  obtain ⟨q0, q1, q2, q3, q4⟩ := (Box2.made w (.slice aS len cap) (.slice aW lenW capW) 25).below hx
  obtain ⟨aS', cap', rfl⟩ := hS.1.slice
  obtain ⟨aW', capW', rfl⟩ := hW.1.slice
  clear hS hW hx h3 h4 HFE
  go_wp2_with fail
  clear q0 q1 q2 q3 q4
  generalize ((x.setCell ⟨w.heap.size, 0, none⟩ (.slice aS' ls.length cap')).setCell ⟨w.heap.size, 1, none⟩ (.slice aW' ws.length capW')) = X at HDX HBX ⊢
  by_cases hb : rightB ls ws = true
  case neg =>
    refine (Crash_bad HDX.out.2.1 HDX.out.2.2 HSM.out (Bool.eq_false_iff.2 hb) kp t).mono ?_
    rintro e y ⟨cS, cW, rfl, hS, hW, hy⟩
    have HBY := Lib.hid (below_trans HBX.out hy)
    obtain ⟨aS2, cap2, rfl⟩ := hS.1.slice
    obtain ⟨aW2, capW2, rfl⟩ := hW.1.slice
    clear hS hW hy
    go_wp2_with fail
    refine (alive_any _).mono ?_
    rintro e z ⟨rfl, hz⟩
    have HBZ := Lib.hid (below_trans (below_trans HBY.out (al y _)) hz)
    clear hz
    go_wp2_with fail
    go_ret
    exact ⟨rfl, HBZ.out⟩
  refine (Crash_yes HDX.out.2.1 HDX.out.2.2 hb kp hkp t).mono ?_
  have hP := rightB_t.1 hb
  have HMD := Lib.hid (fun a (ha : a < ls.length) => crashL_made (kp := kp) hP t ha)
  have hcl := crashL_len kp ls ws t
  rintro e y ⟨cS, cW, rfl, hS, hW, hy⟩
  generalize crashL kp ls ws t = cs at HMD hcl hS
  have HBY := Lib.hid (below_trans HBX.out hy)
  obtain ⟨aS2, cap2, e2⟩ := hS.1.slice
  rw [hcl] at e2
  subst e2
  obtain ⟨aW2, capW2, rfl⟩ := hW.1.slice
  have HDY := Lib.hid ((HDX.out.below hy).below (al y (.cells #[.slice aS2 ls.length cap2, .slice aW2 0 capW2] 25)))
  have HCY := Lib.hid (DBox.made (uS := .slice aS2 ls.length cap2) (uW := .slice aW2 0 capW2) (l := cs) (m := []) hS.1 hW.1)
  have HBW := Lib.hid (below_trans HBY.out (al y (.cells #[.slice aS2 ls.length cap2, .slice aW2 0 capW2] 25)))
  have HP := Lib.hid hP
  have HCL := Lib.hid hcl
  obtain ⟨b0, b1, b2, b3, b4⟩ := (HDX.out.below hy).1
  clear hS hW hy hP hb hcl
  go_wp2_with fail
  refine (alive_any _).mono ?_
  rintro e z ⟨rfl, hz⟩
  have HDZ := Lib.hid (HDY.out.below hz)
  have HCZ := Lib.hid (HCY.out.below hz)
  have HBZ := Lib.hid (below_trans HBW.out hz)
  generalize y.heap.size = yb at HCZ ⊢
  clear hz HDY HCY HBW b0 b1 b2 b3 b4 HBY HDX HBX
  obtain ⟨b0, b1, b2, b3, b4⟩ := HCZ.out.1
  go_wp2_with fail
  go_loopw [51] (fun i wr => At1 z ls.length i wr) (fun i _ => ls.length - (RowKit.intOf i).toNat)
  case atStart => exact ⟨0, Nat.zero_le _, rfl, Below.refl _ _⟩
  case round =>
    clear b0 b1 b2 b3 b4
    obtain ⟨a, ha, rfl, hbe⟩ := hrel
    have HBE := Lib.hid hbe
    by_cases hlt : a < ls.length
    case neg =>
      clear hbe
      go_wp2_with fail
      go_ret
      exact ⟨rfl, below_trans HBZ.out HBE.out⟩
    have hca : a < cs.length := by rw [HCL.out]; exact hlt
    obtain ⟨gc, rfl, hcc, hgc, cc⟩ := SRow.at (show SRow wr (.slice aS2 cs.length cap2) cs by rw [HCL.out]; exact HCZ.out.2.1.below hbe) hca
    obtain ⟨hmade, hx64⟩ := HMD.out a hlt
    rw [getD_eq hca] at hmade hx64
    have HMA := Lib.hid hmade
    rw [HCL.out] at hcc
    clear hbe hmade
    generalize cs[a] = x at cc hx64 HMA
    go_wp2_with fail
    go_loopw [59] (fun i wr => At1 z 64 i wr) (fun i _ => 64 - (RowKit.intOf i).toNat)
    case atStart => exact ⟨0, Nat.zero_le _, rfl, HBE.out⟩
    case round =>
      clear cc
      obtain ⟨k, hk, rfl, hbe⟩ := hrel
      have HBE := Lib.hid hbe
      by_cases hlt2 : k < 64
      case neg =>
        clear hbe
        go_wp2_with fail
        go_roundw
        case rel => exact ⟨a + 1, by omega, by go_num, HBE.out⟩
        case measure => simp [RowKit.intOf]; omega
      obtain ⟨gl, rfl, hcl2, hgl, cl⟩ := (HDZ.out.2.1.below hbe).at hlt
      obtain ⟨b0, b1, b2, b3, b4⟩ := (HDZ.out.below hbe).1
      have hl64 := HP.out.2.2.2.1 a hlt
      have HMI := Lib.hid (HMA.out k hlt2)
      clear hbe
      rw [getD_eq hlt] at HMI
      generalize ls[a] = y at cl hl64 HMI
      go_upto_region 15 with (fail)
      go_quiet (fail)
      have ex : (x[k]'(by omega)).toNat = byt x k := byt_eq (by omega)
      have ey : (y[k]'(by omega)).toNat = byt y k := byt_eq (by omega)
      rw [ex, ey]
      have HBQ := Lib.hid (below_trans HBE.out (drawnB wr nq))
      clear b0 b1 b2 b3 b4 cl ex ey
      generalize wr.drewN nq = wq at HBQ ⊢
      have HF0 : Hid (((byt x k : Int) == (byt y k : Int)) = decide (Fnd x y ws a k 0)) := by
        unfold Hid Fnd
        rw [Bool.eq_iff_iff]
        simp
        omega
      rw [HF0.out]
      obtain ⟨b0, b1, b2, b3, b4⟩ := (HDZ.out.below HBQ.out).1
      go_wp2_with fail
      go_loopw [76, 12] (fun j f wr => At2 z ws.length (Fnd x y ws a k) j f wr) (fun j _ _ => ws.length - (RowKit.intOf j).toNat)
      case atStart => exact ⟨0, Nat.zero_le _, rfl, rfl, HBQ.out⟩
      case round =>
        clear b0 b1 b2 b3 b4
        obtain ⟨q, hq, rfl, rfl, hbe⟩ := hrel
        have HBE := Lib.hid hbe
        by_cases hlt3 : q < ws.length
        case neg =>
          obtain rfl : q = ws.length := by omega
          have hfd : decide (Fnd x y ws a k ws.length) = true := by
            rw [decide_eq_true_iff]
            rcases HMI.out with h | ⟨j, hj, h1, h2⟩
            · exact .inl h
            · exact .inr ⟨j, hj, hj, h1, h2⟩
          rw [hfd]
          clear hbe
          go_wp2_with fail
          go_roundw
          case rel => exact ⟨k + 1, by omega, by go_num, HBE.out⟩
          case measure => simp [RowKit.intOf]; omega
        obtain ⟨gw, rfl, hcw, hgw, c1, c2⟩ := (HDZ.out.2.2.below hbe).at hlt3
        obtain ⟨y1, y2, y3⟩ := HP.out.2.2.2.2 q hlt3
        have HST := Lib.hid (Fnd_step (x := x) (y := y) (a := a) (k := k) hlt3)
        clear hbe
        generalize ws[q] = yw at c1 c2 y1 y2 y3 HST
        obtain ⟨ya, yd⟩ := yw
        dsimp only at c1 c2 y1 y2 y3 HST
        have hBn := Lib.hid (below_trans HBE.out (al wr (.cells #[.int .i64 ya, .string yd] 43)))
        have HEX : Hid (∀ (h : k < x.size), x[k].toNat = byt x k) := fun h => byt_eq h
        have HED : Hid (∀ (h : k < yd.size), yd[k].toNat = byt yd k) := fun h => byt_eq h
        by_cases hF : Fnd x y ws a k q
        · have HT : Hid (decide (Fnd x y ws a k (q + 1)) = true) := decide_eq_true (HST.out.2 (.inl hF))
          rw [decide_eq_true hF]
          clear hF
          go_upto_region 19 with (fail)
          go_quiet (fail)
          go_wp2_with fail
          go_roundw
          case rel => exact ⟨q + 1, by omega, by go_num, by rw [HT.out], below_trans hBn.out (drawnB _ _)⟩
          case measure => simp [RowKit.intOf]; omega
        · have HNF := Lib.hid hF
          rw [decide_eq_false hF]
          clear hF
          by_cases hya : ya = (a : Int)
          · subst hya
            have HT : Hid (decide (Fnd x y ws a k (q + 1)) = ((byt yd k : Int) == (byt x k : Int))) := by
              unfold Hid
              rw [Bool.eq_iff_iff, decide_eq_true_iff, HST.out]
              constructor
              · rintro (h | ⟨_, h⟩)
                · exact absurd h HNF.out
                · rw [h]; simp
              · intro h
                exact .inr ⟨rfl, by have := eq_of_beq h; omega⟩
            go_upto_region 19 with (fail)
            go_quiet (fail)
            rw [HEX.out (by omega), HED.out (by omega)]
            go_wp2_with fail
            go_roundw
            case rel => exact ⟨q + 1, by omega, by go_num, by rw [HT.out], below_trans hBn.out (drawnB _ _)⟩
            case measure => simp [RowKit.intOf]; omega
          · have HT : Hid (decide (Fnd x y ws a k (q + 1)) = false) := by
              refine decide_eq_false fun h => ?_
              rcases HST.out.1 h with h | ⟨h, _⟩
              · exact HNF.out h
              · exact hya h
            have hd : (ya == (a : Int)) = false := by simpa using hya
            go_upto_region 19 with (fail)
            go_quiet (fail)
            go_wp2_with fail
            go_roundw
            case rel => exact ⟨q + 1, by omega, by go_num, by rw [HT.out], below_trans hBn.out (drawnB _ _)⟩
            case measure => simp [RowKit.intOf]; omega

set_option maxRecDepth 100000 in
theorem lifted (os : Os) (started : os.Started) (H : Type) (enc : TypeId × Value → H) :
    ReturnsInHanded {} Try.checked os 5 .any (Rows.diskCrashesSpec.pre6 enc Try.prog Try.f5 Rows.diskCrashesRow.domain false) (Rows.diskCrashesSpec.post enc Try.prog Try.f5 false true false false) := by
  refine returnsInHanded_of_change (C := Try.checked) own started (by kernel_rfl) Try.func5
    (ChangeSpec.witness6 (enc := enc) (C := Try.checked) false ⟨#[], #[.agg #[.slice none 0 0, .slice none 0 0], .int .u64 0, .int .i64 0], []⟩ 8 (by kernel_rfl) (by kernel_rfl) (by kernel_rfl) (by kernel_rfl)) ?_
  intro W base args ds gs before hval0 hW hcnd _
  have hval : ∀ (j : Nat) t v, Try.f5.params[j]? = some t → args[j]? = some v → Value.okWide Try.prog W .any base t v := hval0
  have hW' := hW
  obtain ⟨p, q, hA0, hV, rfl, hfz, hnd⟩ := hW
  have hA : DataW.TrodAll enc Try.prog W 0 (fun _ => true) true Try.f5.params.toList args.toList ds p := hA0
  rw [Try.params5] at hA hval
  obtain ⟨v0, vs0, d0, ds0, p0, q0, hargs, rfl, rfl, h0, r0⟩ := trodAll_cons hA
  obtain ⟨v1, vs1, d1, ds1, p1, q1, rfl, rfl, rfl, h1, r1⟩ := trodAll_cons r0
  obtain ⟨v2, vs2, d2, ds2, p2, q2, rfl, rfl, rfl, h2, r2⟩ := trodAll_cons r1
  obtain ⟨rfl, rfl, rfl⟩ := trodAll_nil r2
  obtain rfl : args = #[v0, v1, v2] := by cases args; simp_all
  obtain ⟨rfl, rfl⟩ := trodVars_none hV
  have k0 := h0
  have lt0 : ∀ x ∈ p0, x.block < W.heap.size := by obtain ⟨m, hm⟩ := k0; exact DataW.trod_lt m _ _ _ hm
  obtain ⟨fuel, hf⟩ := h0
  obtain ⟨vS, vW, rfl, w0, w0'⟩ := open_disk (hval 0 25 v0 rfl rfl) hf
  obtain ⟨a1, rfl, rfl, rfl, w1⟩ := open_int Try.underlying26 (hval 1 26 v1 rfl rfl) h1
  obtain ⟨a2, rfl, rfl, rfl, w2⟩ := open_int Try.underlying3 (hval 2 3 v2 rfl rfl) h2
  have hb1 : 0 ≤ a1 ∧ a1 < 18446744073709551616 := by
    have := w1
    simp [Lit.wf, IntKind.min, IntKind.max, IntKind.bits, IntKind.signed] at this
    omega
  obtain ⟨n1, rfl⟩ : ∃ n : Nat, a1 = n := ⟨a1.toNat, by omega⟩
  clear hA0 hval0 hf
  refine (walk0 vS vW n1 (by omega) a2 W w0 w0').mono fun e W' ⟨he, bel⟩ => ?_
  subst he
  exact ⟨_, rfl, _, _, _, [], _, [], hW', trodAll_mk1 (shut_bool Try.underlying4 _), (trodAll_cons_mk (Below.trod laidOut (by kernel_rfl) (of_decide_eq_true (by kernel_rfl)) k0 bel lt0) (trodAll_cons_mk (shut_int Try.underlying26 w1) (trodAll_cons_mk (shut_int Try.underlying3 w2) trodAll_mk0))), rfl, bel.frame _, fun h => by cases h⟩

theorem over : Rows.diskCrashesRow.holds Try.pinned (OpenSpec.ofChange Rows.diskCrashesSpec) :=
  OpenClaim.holds_of_wide 5 Try.f5 rfl rfl rfl rfl rfl rfl rfl ⟨rfl, rfl, rfl, rfl, rfl⟩ rfl rfl rfl rfl rfl (by kernel_rfl) Try.func5 (by kernel_rfl)
    (of_decide_eq_true (by kernel_rfl)) (by unfold Func.isWrapper; first | (rw [if_pos (by decide +kernel)]; kernel_rfl) | (rw [if_neg (by decide +kernel)]; exact ⟨rfl, rfl⟩))
    (fun os started H enc _ => lifted os started H enc)

theorem proved : Rows.DiskCrashesSaid := over
#print axioms proved
end Go.Proofs.Ythoeidgekogfiaa.diskCrashes
