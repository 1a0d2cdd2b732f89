/-
  Proved: for any row of texts, any integer and any text the law FrameBack returns true: records that are written one behind the other are scanned as they were, whatever is behind; of a beginning of them a beginning. No condition.
-/
import Derived.Test.YtbipkbcmcidalaaRows
import Derived.Test.YtbipkbcmcidalaaFrmAlive
import Derived.Test.YtbipkbcmcidalaaFrmFew
import Derived.Deep.RegionWith
import Derived.Deep.CutRange
import Derived.ShutString
import Derived.ChangeOld
import Derived.SliceStrings
import Derived.Carry
namespace Go.Proofs.Ytbipkbcmcidalaa.frameBack
open Go.ChangeShapes Go.WideShapes Go.ChangeAt Go.RowKit Go.Lib Go.Proofs.Ytbipkbcmcidalaa.Frame
open Go.ChangeMaps (open_string shut_string)
set_option linter.unusedVariables false

theorem own : ownKnob Try.prog.godebug = none := by kernel_rfl
theorem laidOut : laidOutB Try.prog = true := by kernel_rfl

/-- Behind the law's first statement: a row of few texts, and a text. -/
def Cut1 (w : World) (l s : Value) (wx : World) : Prop :=
  ∃ (a : Option Addr) (cap : Nat) (ls : List ByteArray) (t : ByteArray), l = .slice a ls.length cap ∧ ls.length ≤ 8 ∧ ls.length ≤ cap ∧ (∀ y ∈ ls, y.size ≤ 100) ∧ SRow wx l ls ∧ s = .string t ∧ t.size ≤ 100 ∧ Below w.heap.size w wx
theorem srow_slice {w : World} {B n : Nat} {e : TypeId} {v : Value} {xs : List Value} (h : w.ownsRow B e 1 v n xs) : ∃ a cap, v = .slice a n cap ∧ n ≤ cap := by
  obtain ⟨_, ⟨rfl, rfl⟩ | ⟨g, cap, _, rfl, _, _, h, _⟩⟩ := h
  · exact ⟨_, _, rfl, Nat.le_refl _⟩
  · exact ⟨_, _, rfl, h⟩
theorem srow_at {w : World} {a : Option Addr} {n cap j : Nat} {ls : List ByteArray} (h : SRow w (.slice a n cap) ls) (hj : j < ls.length) : ∃ g, a = some ⟨g, 0, none⟩ ∧ n = ls.length ∧ g < w.heap.size ∧ w.cell? ⟨g, j, none⟩ = some (.string ls[j]) := by
  rcases h with ⟨_, rfl⟩ | ⟨g, cap', e, _, hg, hc⟩
  · simp at hj
  · cases e
    exact ⟨g, rfl, rfl, hg, hc j hj⟩
theorem srow_take {w : World} {a : Option Addr} {n cap m : Nat} {ls : List ByteArray} (h : SRow w (.slice a n cap) ls) (hm : m ≤ ls.length) : SRow w (.slice a m cap) (ls.take m) := by
  rcases h with ⟨e, rfl⟩ | ⟨g, cap', e, hcap, hg, hc⟩
  · cases e
    obtain rfl : m = 0 := by simpa using hm
    exact .inl ⟨rfl, by simp⟩
  · cases e
    refine .inr ⟨g, cap, by rw [List.length_take, Nat.min_eq_left hm], by rw [List.length_take]; omega, hg, fun j hj => ?_⟩
    rw [List.length_take] at hj
    rw [List.getElem_take]
    exact hc j (by omega)

/-- The bytes of records. -/
def bys (l : List ByteArray) : ByteArray := ⟨(frms l).toArray⟩
theorem bys_snoc (ls : List ByteArray) (k : Nat) (h : k < ls.length) : bys (ls.take k) ++ ⟨(frm ls[k]).toArray⟩ = bys (ls.take (k + 1)) := by
  rw [List.take_succ_eq_append_getElem h, bys, bys, frms_snoc]
  apply same_bytes
  simp
theorem frms_le (ls : List ByteArray) (h : ∀ y ∈ ls, y.size ≤ 100) : (frms ls).length ≤ 113 * ls.length := by
  induction ls with
  | nil => simp [frms]
  | cons d l ih =>
    have h1 := frm_le d (by have := h d (by simp); omega)
    have h2 := h d (by simp)
    have h3 := ih fun y hy => h y (by simp [hy])
    simp only [frms, List.length_append, List.length_cons]
    omega
theorem bys_size (l : List ByteArray) : (bys l).size = (frms l).length := mk_size _

theorem scans_all (ls : List ByteArray) (h : ∀ y ∈ ls, y.size ≤ 100) : Scn (bys ls) ls ⟨#[]⟩ := by
  have := scn_pre (.done (⟨#[]⟩ : ByteArray) (no_short (by simp [ByteArray.size]))) ls (bys ls) (fun d hd => by have := h d hd; omega) (by simp [bys])
  rwa [List.append_nil] at this
theorem scans_behind (ls : List ByteArray) (h : ∀ y ∈ ls, y.size ≤ 100) (t : ByteArray) : ∃ m r, Scn (bys ls ++ t) (ls ++ m) r ∧ r.size ≤ t.size := by
  obtain ⟨m, r, hm⟩ := scn_some t.size t (Nat.le_refl _)
  refine ⟨m, r, scn_pre hm ls _ (fun d hd => by have := h d hd; omega) (by simp [bys]), ?_⟩
  have := (scn_bytes hm).2.2; omega
theorem scans_take (ls : List ByteArray) (h : ∀ y ∈ ls, y.size ≤ 100) (p : Nat) : ∃ j r, j ≤ ls.length ∧ Scn ((bys ls).extract 0 p) (ls.take j) r :=
  scn_take ls _ p (fun d hd => by have := h d hd; omega) (by rw [cut_list]; simp [bys])
/-- Where the beginning is cut off. -/
theorem place (a : Int) (m : Nat) (h1 : m ≤ 1000) : ∃ p : Nat, (wrap64 (wrap64 (a.tmod ((m : Int) + 1) + (m : Int)) + 1)).tmod ((m : Int) + 1) = (p : Int) ∧ p ≤ m := by
  have hm : (0 : Int) < (m : Int) + 1 := by omega
  have l1 := Int.tmod_lt_of_pos a hm
  have l2 := Int.lt_tmod_of_pos a hm
  rw [IntWalk.wrap64_in (a.tmod ((m : Int) + 1) + (m : Int)) ⟨by omega, by omega⟩]
  rw [IntWalk.wrap64_in _ ⟨by omega, by omega⟩]
  have e := Int.tmod_eq_emod_of_nonneg (a := a.tmod ((m : Int) + 1) + (m : Int) + 1) (b := (m : Int) + 1) (by omega)
  have g1 := Int.emod_nonneg (a.tmod ((m : Int) + 1) + (m : Int) + 1) (b := (m : Int) + 1) (by omega)
  have g2 := Int.emod_lt_of_pos (a.tmod ((m : Int) + 1) + (m : Int) + 1) hm
  exact ⟨((a.tmod ((m : Int) + 1) + (m : Int) + 1) % ((m : Int) + 1)).toNat, by rw [e]; omega, by omega⟩

set_option maxRecDepth 100000 in
set_option maxHeartbeats 4000000 in
theorem walk0 (v : Value) (n : Int) (s : ByteArray) (w : World) (hf : MayFew w v) (hs : s.size ≤ maxLen) : Calls Try.prog 4 #[v, .int .i64 n, .string s] w (BoolB true w) := by
  unfold maxLen at hs
  have HF := Lib.hid hf
  clear hf
  go_enter Try.func4, Try.ntmps4
  go_upto_region 1 with (fail)
  go_cut [0, 2] from 18 to 24 (fun l s wx => Cut1 w l s wx)
  case first =>
    by_cases hmin : s.size ≤ 100
    · go_region_with (go_at_call 15; refine (HF.out _ (Below.refl _ _).drew).mono ?_; rintro e x1 ⟨v1, ls, rfl, h1, h2, h3, h4⟩; have HO := Lib.hid h3; have H124 := Lib.hid (And.intro h1 (And.intro h2 h4)); obtain ⟨a, cap, rfl, hcap⟩ := srow_slice h3; have HCP := Lib.hid hcap; clear h1 h2 h3 h4 hcap)
      all_goals (try go_wp2_with fail)
      all_goals go_meet
      all_goals exact ⟨a, cap, ls, s, rfl, H124.out.1, HCP.out, H124.out.2.1, srow_of_own HO.out, rfl, hmin, (Below.refl _ _).drew.trans H124.out.2.2⟩
    · go_region_with (go_at_call 15; refine (HF.out _ (Below.refl _ _).drew).mono ?_; rintro e x1 ⟨v1, ls, rfl, h1, h2, h3, h4⟩; have HO := Lib.hid h3; have H124 := Lib.hid (And.intro h1 (And.intro h2 h4)); obtain ⟨a, cap, rfl, hcap⟩ := srow_slice h3; have HCP := Lib.hid hcap; clear h1 h2 h3 h4 hcap)
      all_goals (try go_wp2_with fail)
      all_goals go_meet
      all_goals exact ⟨a, cap, ls, s.extract 0 100, rfl, H124.out.1, HCP.out, H124.out.2.1, srow_of_own HO.out, rfl, by rw [ByteArray.size_extract]; omega, (Below.refl _ _).drew.trans H124.out.2.2⟩
  case rest =>
    clear HF hs
    obtain ⟨a, cap, ls, t, rfl, hl, hcap, hy, hrow, rfl, ht, hbe⟩ := hcut
    have HR := Lib.hid hrow
    have HY := Lib.hid hy
    have HBE := Lib.hid hbe
    clear hrow hy hbe
    go_wp2_with fail
    go_loopw [7, 27] (fun all i wr => ∃ k : Nat, k ≤ ls.length ∧ i = .int .i64 k ∧ all = .string (bys (ls.take k)) ∧ Below wc.heap.size wc wr) (fun _ i _ => ls.length - (intOf i).toNat)
    case atStart => exact ⟨0, Nat.zero_le _, rfl, by simp [bys, frms], Below.refl _ _⟩
    case round =>
      obtain ⟨k, hk, rfl, rfl, hnx⟩ := hrel
      by_cases hlt : k < ls.length
      · obtain ⟨g, rfl, _, hg, hcell⟩ := srow_at HR.out hlt
        have hce := (hnx.cell (p := ⟨g, k, none⟩) hg).trans hcell
        have HF1 := Lib.hid (Frame_yes ls[k] wr (by have := HY.out _ (List.getElem_mem hlt); omega))
        have HSN := Lib.hid (bys_snoc ls k hlt)
        have hz1 : (bys (ls.take k)).size ≤ 904 := by
          have := frms_le (ls.take k) fun y hy => HY.out y (List.mem_of_mem_take hy)
          rw [bys_size]; rw [List.length_take] at this; omega
        have hz2 : (⟨(frm ls[k]).toArray⟩ : ByteArray).size ≤ 113 := by
          have h1 := HY.out _ (List.getElem_mem hlt)
          have := frm_le ls[k] (by omega)
          rw [mk_size]; omega
        have HN := Lib.hid hnx
        clear hcell hnx
        generalize ls[k] = x at hce HF1 HSN hz2
        generalize (⟨(frm x).toArray⟩ : ByteArray) = f at HF1 HSN hz2
        generalize bys (ls.take k) = b at HSN hz1 ⊢
        go_wp2_with fail
        refine HF1.out.mono ?_
        rintro e x1 ⟨rfl, hx1⟩
        have HX := Lib.hid hx1
        clear hx1
        go_wp2_with fail
        rw [HSN.out]
        go_roundw
        case rel => exact ⟨k + 1, by omega, by go_num, rfl, below_trans HN.out HX.out⟩
        case measure => simp [intOf]; omega
      · obtain rfl : k = ls.length := by omega
        rw [List.take_length]
        have HN := Lib.hid (below_trans HBE.out hnx)
        have HRN := Lib.hid (srow_below HR.out hnx)
        clear hnx HBE HR
        have hbz : (bys ls).size ≤ 904 := by
          have := frms_le ls HY.out
          rw [bys_size]; omega
        obtain ⟨p, hp, hpl⟩ := place n (bys ls).size (by omega)
        have HA : Hid (∀ W, Calls Try.prog 8 #[.string (bys ls)] W (RowN ls 0 W)) := fun W => by
          have := All_scn (scans_all ls HY.out) (by omega) W
          rwa [if_pos (show (⟨#[]⟩ : ByteArray).size = 0 from rfl), if_pos (show (⟨#[]⟩ : ByteArray).size = 0 from rfl)] at this
        obtain ⟨m, r1, h1, h2⟩ := scans_behind ls HY.out t
        have HS1 := Lib.hid (fun W => Scan_scn h1 (by rw [ByteArray.size_append]; omega) W)
        have hn1 : ((bys ls).size : Int) ≤ ((bys ls ++ t).size : Int) - r1.size := by rw [ByteArray.size_append]; omega
        obtain ⟨j, r2, hj, h3⟩ := scans_take ls HY.out p
        have hsx : ((bys ls).extract 0 p).size = p := by rw [ByteArray.size_extract]; omega
        have HS2 := Lib.hid (fun W => Scan_scn h3 (by omega) W)
        have hn2 : (((bys ls).extract 0 p).size : Int) - r2.size ≤ p := by omega
        clear h1 h2 h3 hsx
        generalize ((bys ls).extract 0 p).size - (r2.size : Int) = n2 at HS2 hn2
        generalize ((bys ls ++ t).size : Int) - r1.size = n1 at HS1 hn1
        generalize bys ls = b at hbz hp hpl HA HS1 HS2 hn1 ⊢
        have hbz2 : (b ++ t).size ≤ 2000 := by rw [ByteArray.size_append]; omega
        go_wp2_with fail
        refine (HA.out _).mono ?_
        rintro e x1 ⟨va, rfl, ho1, _, hx1⟩
        have HA1 := Lib.hid (srow_of_own ho1)
        have HB1 := Lib.hid (below_trans HN.out hx1)
        have HR1 := Lib.hid (srow_below HRN.out hx1)
        obtain ⟨aa, capa, rfl, _⟩ := srow_slice ho1
        clear ho1 hx1 HN HRN HA
        go_wp2_with fail
        refine (HS1.out _).mono ?_
        rintro e x2 ⟨vb, rfl, ho2, _, hx2⟩
        have HC2 := Lib.hid (srow_of_own ho2)
        have HA2 := Lib.hid (srow_below HA1.out hx2)
        have HB2 := Lib.hid (below_trans HB1.out hx2)
        have HR2 := Lib.hid (srow_below HR1.out hx2)
        obtain ⟨ab, capb, rfl, hcapb⟩ := srow_slice ho2
        rw [List.length_append] at hcapb ⊢
        clear ho2 hx2 HA1 HB1 HR1 HS1
        go_wp2_with fail
        refine (HS2.out _).mono ?_
        rintro e x3 ⟨vc, rfl, ho3, _, hx3⟩
        have hjl : (ls.take j).length = j := by rw [List.length_take]; omega
        have HD3 := Lib.hid (srow_of_own ho3)
        rw [hjl] at ho3
        have HC3 := Lib.hid (srow_below HC2.out hx3)
        have HA3 := Lib.hid (srow_below HA2.out hx3)
        have HB3 := Lib.hid (below_trans HB2.out hx3)
        have HR3 := Lib.hid (srow_below HR2.out hx3)
        obtain ⟨ac, capc, rfl, _⟩ := srow_slice ho3
        clear ho3 hx3 HA2 HB2 HR2 HC2 HS2 hp hjl
        go_wp2_with fail
        refine (Same_yes HA3.out HR3.out (by omega)).mono ?_
        rintro e x4 ⟨rfl, hx4⟩
        have HD4 := Lib.hid (srow_below HD3.out hx4)
        have HC4 := Lib.hid (srow_below HC3.out hx4)
        have HB4 := Lib.hid (below_trans HB3.out hx4)
        have HR4 := Lib.hid (srow_below HR3.out hx4)
        clear hx4 HD3 HC3 HB3 HR3 HA3
        have i1 : ¬ n1 < (b.size : Int) := by omega
        have i2 : ¬ ((ls.length : Int) + (m.length : Int)) < (ls.length : Int) := by omega
        have i3 : ¬ (p : Int) < n2 := by omega
        have i4 : ¬ (ls.length : Int) < (j : Int) := by omega
        go_wp2_with fail
        refine (alive_any _).mono ?_
        rintro e x5 ⟨rfl, hx5⟩
        have HD5 := Lib.hid (srow_below HD4.out hx5)
        have hT := srow_take (srow_below HC4.out hx5) (m := ls.length) (by simp)
        rw [List.take_left] at hT
        have HC5 := Lib.hid hT
        have HB5 := Lib.hid (below_trans HB4.out hx5)
        have HR5 := Lib.hid (srow_below HR4.out hx5)
        clear hx5 hT HD4 HC4 HB4 HR4
        have i5 : (ls.length : Int) ≤ (capb : Int) := by omega
        have i6 : (0 : Int) ≤ (ls.length : Int) := by omega
        go_wp2_with fail
        refine (Same_yes HC5.out HR5.out (by omega)).mono ?_
        rintro e x6 ⟨rfl, hx6⟩
        have HD6 := Lib.hid (srow_below HD5.out hx6)
        have HB6 := Lib.hid (below_trans HB5.out hx6)
        have HR6 := Lib.hid (srow_take (srow_below HR5.out hx6) (m := j) hj)
        clear hx6 HD5 HC5 HB5 HR5
        have i7 : (j : Int) ≤ (cap : Int) := by omega
        have i8 : (0 : Int) ≤ (j : Int) := by omega
        go_wp2_with fail
        refine (Same_yes HD6.out HR6.out (by rw [List.length_take]; omega)).mono ?_
        rintro e x7 ⟨rfl, hx7⟩
        have HB7 := Lib.hid (below_trans HB6.out hx7)
        clear hx7 HD6 HR6 HB6
        go_wp2_with fail
        go_ret
        exact ⟨rfl, HB7.out⟩

set_option maxRecDepth 100000 in
theorem lifted (os : Os) (started : os.Started) (H : Type) (enc : TypeId × Value → H) :
    ReturnsInHanded {} Try.checked os 4 .any (Rows.frameBackSpec.pre6 enc Try.prog Try.f4 Rows.frameBackRow.domain false) (Rows.frameBackSpec.post enc Try.prog Try.f4 false true false false) := by
  refine returnsInHanded_of_change (C := Try.checked) own started (by kernel_rfl) Try.func4
    (ChangeSpec.witness6 (enc := enc) (C := Try.checked) false ⟨#[], #[.slice none 0 0, .int .i64 0, .string ByteArray.empty], []⟩ 8 (by kernel_rfl) (by kernel_rfl) (by kernel_rfl) (by kernel_rfl)) ?_
  intro W base args ds gs before hval0 hW hcnd _
  have hval : ∀ (j : Nat) t v, Try.f4.params[j]? = some t → args[j]? = some v → Value.okWide Try.prog W .any base t v := hval0
  have hW' := hW
  obtain ⟨p, q, hA0, hV, rfl, hfz, hnd⟩ := hW
  have hA : DataW.TrodAll enc Try.prog W 0 (fun _ => true) true Try.f4.params.toList args.toList ds p := hA0
  rw [Try.params4] at hA hval
  obtain ⟨v0, vs0, d0, ds0, p0, q0, hargs, rfl, rfl, h0, r0⟩ := trodAll_cons hA
  obtain ⟨v1, vs1, d1, ds1, p1, q1, rfl, rfl, rfl, h1, r1⟩ := trodAll_cons r0
  obtain ⟨v2, vs2, d2, ds2, p2, q2, rfl, rfl, rfl, h2, r2⟩ := trodAll_cons r1
  obtain ⟨rfl, rfl, rfl⟩ := trodAll_nil r2
  obtain rfl : args = #[v0, v1, v2] := by cases args; simp_all
  obtain ⟨rfl, rfl⟩ := trodVars_none hV
  obtain ⟨a1, len1, cap1, rfl⟩ := okWide_slice Try.underlying25 (hval 0 25 v0 rfl rfl)
  have k0 := h0
  have lt0 : ∀ x ∈ p0, x.block < W.heap.size := by obtain ⟨m, hm⟩ := k0; exact DataW.trod_lt m _ _ _ hm
  have w0 : MayFew W (.slice a1 len1 cap1) := by
    obtain ⟨fuel, hf⟩ := h0
    rcases open_strings Try.underlying25 Try.underlying9 (by kernel_rfl) hf with ⟨hcs, _⟩ | ⟨x, l, c, ss, hcs, _, hl, hm, hz, _, hcell, hws⟩
    · simp [Value.cells] at hcs
      obtain ⟨rfl, rfl, rfl⟩ := hcs
      exact fun V _ => few_nil _ _ V
    · simp [Value.cells] at hcs
      obtain ⟨rfl, rfl, rfl⟩ := hcs
      exact mayFew_of hl hm (by simp at hz; omega) hcell hws
  obtain ⟨a0, rfl, rfl, rfl, w1⟩ := open_int Try.underlying3 (hval 1 3 v1 rfl rfl) h1
  obtain ⟨a2, rfl, rfl, rfl, w2⟩ := open_string Try.underlying9 (hval 2 9 v2 rfl rfl) h2
  clear hA0 hval0
  refine (walk0 _ a0 a2 W w0 w2).mono fun e W' ⟨he, bel⟩ => ?_
  subst he
  exact ⟨_, rfl, _, _, _, [], _, [], hW', trodAll_mk1 (shut_bool Try.underlying4 _), (trodAll_cons_mk (Below.trod laidOut (by kernel_rfl) (of_decide_eq_true (by kernel_rfl)) k0 bel lt0) (trodAll_cons_mk (shut_int Try.underlying3 w1) (trodAll_cons_mk (shut_string Try.underlying9 w2) trodAll_mk0))), rfl, bel.frame _, fun h => by cases h⟩

theorem over : Rows.frameBackRow.holds Try.pinned (OpenSpec.ofChange Rows.frameBackSpec) :=
  OpenClaim.holds_of_wide 4 Try.f4 rfl rfl rfl rfl rfl rfl rfl ⟨rfl, rfl, rfl, rfl, rfl⟩ rfl rfl rfl rfl rfl (by kernel_rfl) Try.func4 (by kernel_rfl)
    (of_decide_eq_true (by kernel_rfl)) (by unfold Func.isWrapper; first | (rw [if_pos (by decide +kernel)]; kernel_rfl) | (rw [if_neg (by decide +kernel)]; exact ⟨rfl, rfl⟩))
    (fun os started H enc _ => lifted os started H enc)

theorem proved : Rows.FrameBackSaid := over
#print axioms proved
end Go.Proofs.Ytbipkbcmcidalaa.frameBack
