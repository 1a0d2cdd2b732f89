/-
  Proved: for any row of texts, any two integers and any number of 32 bits the law FrameHurt returns true: a change within 32 bits of one record's own bytes ends the scan ahead of it. No condition.
-/
import Derived.Test.YtbipkbcmcidalaaRows
import Derived.Test.YtbipkbcmcidalaaTurn
import Derived.Test.YtbipkbcmcidalaaFrmFew
import Derived.Test.YtbipkbcmcidalaaFrmRef
import Derived.StillTailTactics
import Derived.ShutString
import Derived.ChangeOld
import Derived.SliceStrings
import Derived.Carry
namespace Go.Proofs.Ytbipkbcmcidalaa.frameHurt
open Go.ChangeShapes Go.WideShapes Go.ChangeAt Go.RowKit Go.Lib Go.Proofs.Ytbipkbcmcidalaa.Frame
open Go.Proofs.Ytbipkbcmcidalaa.Crc (four crcOn crcOn_lt BRow Kept)
open Go.ChangeMaps (open_string shut_string)
set_option linter.unusedVariables false

theorem own : ownKnob Try.prog.godebug = none := by kernel_rfl
theorem laidOut : laidOutB Try.prog = true := by kernel_rfl

theorem srow_slice {w : World} {B n : Nat} {e : TypeId} {v : Value} {xs : List Value} (h : w.ownsRow B e 1 v n xs) : ∃ a cap, v = .slice a n cap ∧ n ≤ cap := by
  obtain ⟨_, ⟨rfl, rfl⟩ | ⟨g, cap, _, rfl, _, _, h, _⟩⟩ := h
  · exact ⟨_, _, rfl, Nat.le_refl _⟩
  · exact ⟨_, _, rfl, h⟩
theorem srow_at {w : World} {a : Option Addr} {n cap j : Nat} {ls : List ByteArray} (h : SRow w (.slice a n cap) ls) (hj : j < ls.length) : ∃ g, a = some ⟨g, 0, none⟩ ∧ n = ls.length ∧ g < w.heap.size ∧ w.cell? ⟨g, j, none⟩ = some (.string ls[j]) := by
  rcases h with ⟨_, rfl⟩ | ⟨g, cap', e, _, hg, hc⟩
  · simp at hj
  · cases e
    exact ⟨g, rfl, rfl, hg, hc j hj⟩
theorem srow_take {w : World} {a : Option Addr} {n cap m : Nat} {ls : List ByteArray} (h : SRow w (.slice a n cap) ls) (hm : m ≤ ls.length) : SRow w (.slice a m cap) (ls.take m) := by
  rcases h with ⟨e, rfl⟩ | ⟨g, cap', e, hcap, hg, hc⟩
  · cases e
    obtain rfl : m = 0 := by simpa using hm
    exact .inl ⟨rfl, by simp⟩
  · cases e
    refine .inr ⟨g, cap, by rw [List.length_take, Nat.min_eq_left hm], by rw [List.length_take]; omega, hg, fun j hj => ?_⟩
    rw [List.length_take] at hj
    rw [List.getElem_take]
    exact hc j (by omega)
theorem frms_le (ls : List ByteArray) (h : ∀ y ∈ ls, y.size ≤ 100) : (frms ls).length ≤ 113 * ls.length := by
  induction ls with
  | nil => simp [frms]
  | cons d l ih =>
    have h1 := frm_le d (by have := h d (by simp); omega)
    have h2 := h d (by simp)
    have h3 := ih fun y hy => h y (by simp [hy])
    simp only [frms, List.length_append, List.length_cons]
    omega

/-- What stands ahead of a record's own bytes, and behind them. -/
def ahead (ls : List ByteArray) (q : Nat) (d : ByteArray) : List UInt8 := frms (ls.take q) ++ digs (fold d.size)
def after (ls : List ByteArray) (q : Nat) (d : ByteArray) : List UInt8 := four (crcOn 0 d.data.toList) ++ frms (ls.drop (q + 1))
theorem parted (ls : List ByteArray) (q : Nat) (h : q < ls.length) : frms ls = ahead ls q ls[q] ++ (ls[q].data.toList ++ after ls q ls[q]) := by
  have e : ls = ls.take q ++ (ls[q] :: ls.drop (q + 1)) := by simp
  have e2 := congrArg frms e
  rw [e2, frms_append]
  simp [frms, frm, ahead, after]
theorem ahead_len (ls : List ByteArray) (q : Nat) (d : ByteArray) : (frms (ls.take q)).length + (frm d).length = (ahead ls q d).length + 4 + d.size := by
  rw [frm_len, ahead, List.length_append]; omega
theorem scan_hurt {ls : List ByteArray} {q : Nat} (h : q < ls.length) (hy : ∀ y ∈ ls, y.size ≤ 100) {m : List UInt8} (hm : m.length = ls[q].data.toList.length) (hc : crcOn 0 m ≠ crcOn 0 ls[q].data.toList) :
    ∃ r, Scn ⟨(ahead ls q ls[q] ++ (m ++ after ls q ls[q])).toArray⟩ (ls.take q) r := by
  have hno : No ⟨(digs (fold ls[q].size) ++ (m ++ after ls q ls[q])).toArray⟩ := by
    refine no_hurt (d := ls[q]) (d' := ⟨m.toArray⟩) (x := frms (ls.drop (q + 1))) (by have := hy _ (List.getElem_mem h); omega) ?_ ?_ ?_
    · rw [mk_size, hm, size_list]
    · rw [mk_list]; exact hc
    · simp [after]
  have := scn_pre (.done _ hno) (ls.take q) ⟨(ahead ls q ls[q] ++ (m ++ after ls q ls[q])).toArray⟩ (fun d hd => by have := hy d (List.mem_of_mem_take hd); omega) (by simp [ahead])
  rw [List.append_nil] at this
  exact ⟨_, this⟩
theorem alive_below {w0 w : World} (h : Below w0.heap.size w0 w) : Calls Try.prog 13 #[] w (BoolB true w0) := (alive_any w).mono fun _ _ ⟨he, hb⟩ => ⟨he, below_trans h hb⟩

set_option maxRecDepth 100000 in
set_option maxHeartbeats 4000000 in
theorem walk0 (v : Value) (wh at' : Int) (d : Nat) (hd : d < 4294967296) (w : World) (hf : MayFew w v) : Calls Try.prog 5 #[v, .int .i64 wh, .int .i64 at', .int .u32 d] w (BoolB true w) := by
  have HF := Lib.hid (hf w (Below.refl _ _))
  clear hf
  go_enter Try.func5, Try.ntmps5
  go_wp2_with fail
  refine HF.out.mono ?_
  rintro e x1 ⟨v1, ls, rfl, hl, hy, ho, hb1⟩
  have HR := Lib.hid (srow_of_own ho)
  have HB1 := Lib.hid hb1
  have HY := Lib.hid hy
  obtain ⟨a, cap, rfl, hcap⟩ := srow_slice ho
  clear ho hb1 hy HF
  by_cases h0 : ls.length = 0
  · have z1 : ((ls.length : Int) == 0) = true := by rw [h0]; rfl
    go_wp2_with fail
    refine (alive_below HB1.out).mono ?_
    rintro e x2 ⟨rfl, hb2⟩
    go_wp2_with fail
    go_ret
    exact ⟨rfl, hb2⟩
  have z1 : ((ls.length : Int) == 0) = false := by rw [beq_eq_false_iff_ne]; omega
  by_cases hd0 : d = 0
  · subst hd0
    go_wp2_with fail
    refine (alive_below HB1.out).mono ?_
    rintro e x2 ⟨rfl, hb2⟩
    go_wp2_with fail
    go_ret
    exact ⟨rfl, hb2⟩
  have z2 : ((d : Int) == 0) = false := by simp; omega
  obtain ⟨q, hq, hql⟩ := bitPlace wh ls.length (by omega) (by omega)
  have HPA := Lib.hid (parted ls q hql)
  have HAL := Lib.hid (ahead_len ls q ls[q])
  obtain ⟨F, HFE⟩ : ∃ F, Hid ((ahead ls q ls[q]).length = F) := ⟨_, Lib.hid rfl⟩
  go_wp2_with fail
  go_loopw [9, 10, 43] (fun all from' i wr => ∃ k : Nat, k ≤ ls.length ∧ i = .int .i64 k ∧ all = .string (bytesOf (ls.take k)) ∧ from' = .int .i64 (if q < k then (F : Int) else 0) ∧ Below x1.heap.size x1 wr) (fun _ _ i _ => ls.length - (intOf i).toNat)
  case atStart => exact ⟨0, Nat.zero_le _, rfl, by simp [bytesOf, frms], by simp, Below.refl _ _⟩
  case round =>
    obtain ⟨k, hk, rfl, rfl, rfl, hnx⟩ := hrel
    clear hq
    by_cases hlt : k < ls.length
    · obtain ⟨g, rfl, _, hg, hcell⟩ := srow_at HR.out hlt
      have hce := (hnx.cell (p := ⟨g, k, none⟩) hg).trans hcell
      have HF1 := Lib.hid (Frame_yes ls[k] wr (by have := HY.out _ (List.getElem_mem hlt); omega))
      have HSN := Lib.hid (bytesOf_snoc ls k hlt)
      have hz1 : (bytesOf (ls.take k)).size ≤ 904 := by
        have := frms_le (ls.take k) fun y hy => HY.out y (List.mem_of_mem_take hy)
        rw [bytesOf, mk_size]; rw [List.length_take] at this; omega
      have hz2 : (⟨(frm ls[k]).toArray⟩ : ByteArray).size ≤ 113 := by
        have h1 := HY.out _ (List.getElem_mem hlt)
        have := frm_le ls[k] (by omega)
        rw [mk_size]; omega
      have hz3 : k = q → (bytesOf (ls.take k)).size + (⟨(frm ls[k]).toArray⟩ : ByteArray).size = F + 4 + ls[k].size := by
        rintro rfl
        rw [bytesOf, mk_size, mk_size, ← HFE.out]; exact HAL.out
      have HN := Lib.hid hnx
      clear hcell hnx
      generalize ls[k] = x at hce HF1 HSN hz2 hz3
      generalize (⟨(frm x).toArray⟩ : ByteArray) = f at HF1 HSN hz2 hz3
      generalize bytesOf (ls.take k) = b at HSN hz1 hz3 ⊢
      by_cases hkq : k = q
      · have hz := hz3 hkq
        subst hkq
        have i1 : ((k : Int) == (k : Int)) = true := by simp
        clear hz3
        go_wp2_with fail
        refine HF1.out.mono ?_
        rintro e x2 ⟨rfl, hx2⟩
        have HX := Lib.hid hx2
        clear hx2
        go_wp2_with fail
        rw [HSN.out]
        go_roundw
        case rel => exact ⟨k + 1, by omega, by go_num, rfl, by rw [if_pos (by omega)]; exact v_int (by omega), below_trans HN.out HX.out⟩
        case measure => simp [intOf]; omega
      · have i1 : ((k : Int) == (q : Int)) = false := by simp; omega
        have HI := Lib.hid (show (if q < k then (F : Int) else 0) = if q < k + 1 then (F : Int) else 0 by
          by_cases h : q < k
          · rw [if_pos h, if_pos (by omega)]
          · rw [if_neg h, if_neg (by omega)])
        generalize (if q < k then (F : Int) else 0) = fr at HI ⊢
        clear hz3
        go_wp2_with fail
        refine HF1.out.mono ?_
        rintro e x2 ⟨rfl, hx2⟩
        have HX := Lib.hid hx2
        clear hx2
        go_wp2_with fail
        rw [HSN.out]
        go_roundw
        case rel => exact ⟨k + 1, by omega, by go_num, rfl, by rw [HI.out], below_trans HN.out HX.out⟩
        case measure => simp [intOf]; omega
    · obtain rfl : k = ls.length := by omega
      rw [List.take_length, if_pos hql]
      rename World => W0
      have HN := Lib.hid (below_trans HB1.out hnx)
      have HRN := Lib.hid (srow_below HR.out hnx)
      clear hnx HR HB1 hlt hk h0 hd0 z1
      obtain ⟨g, rfl, _, hg, hce⟩ := srow_at HRN.out hql
      have hds : ls[q].size ≤ 100 := HY.out _ (List.getElem_mem hql)
      have HSH := Lib.hid (fun m h1 h2 => scan_hurt (m := m) hql HY.out h1 h2)
      have hbs : (bytesOf ls).size ≤ 904 := by
        have := frms_le ls HY.out
        rw [bytesOf, mk_size]; omega
      have HBL : Hid ((bytesOf ls).data.toList = ahead ls q ls[q] ++ (ls[q].data.toList ++ after ls q ls[q])) := by
        unfold Hid; rw [bytesOf, mk_list]; exact HPA.out
      have hFb : F + ls[q].size ≤ (bytesOf ls).size := by
        have := congrArg List.length HBL.out
        rw [List.length_append, List.length_append, size_list, size_list, HFE.out] at this
        omega
      clear HPA HAL HY
      generalize ahead ls q ls[q] = pre at HSH HBL HFE
      generalize after ls q ls[q] = post at HSH HBL
      generalize ls[q] = x at hce hds HSH HBL hFb
      generalize bytesOf ls = b at hbs HBL hFb ⊢
      by_cases hx0 : x.size = 0
      · have y1 : ((8 * (x.size : Int)) == 0) = true := by rw [hx0]; rfl
        go_wp2_with fail
        refine (alive_below HN.out).mono ?_
        rintro e x2 ⟨rfl, hb2⟩
        go_wp2_with fail
        go_ret
        exact ⟨rfl, hb2⟩
      have y1 : ((8 * (x.size : Int)) == 0) = false := by rw [beq_eq_false_iff_ne]; omega
      have y2 : (8 * (x.size : Int)).tdiv 8 = (x.size : Int) := by rw [Int.tdiv_eq_ediv_of_nonneg (by omega)]; omega
      have y3 : ¬ (b.size : Int) < (F : Int) + (x.size : Int) := by omega
      obtain ⟨p0, hp0, hp8⟩ := bitPlace at' (8 * x.size) (by omega) (by omega)
      rw [show ((8 * x.size : Nat) : Int) = 8 * (x.size : Int) by simp] at hp0
      obtain ⟨capb, w0, hcapb, hmk, hrow, hbel⟩ := BRow.made b W0
      have HROW := Lib.hid hrow
      have HBEL := Lib.hid hbel
      clear hrow hbel
      go_wp2_with fail
      clear hmk hp0 z2 y1 y2 y3
      have HDL := Lib.hid (size_list x)
      have HLB : Hid ((pre ++ (x.data.toList ++ post)).length = b.size) := by unfold Hid; rw [← HBL.out, size_list]
      rw [HBL.out] at HROW
      go_loopw [102] (fun i wv => ∃ (k : Nat) (l : List UInt8), k ≤ 32 ∧ i = .int .i64 k ∧ Hid (Hurt x.data.toList pre post p0 k l) ∧ Kept W0 W0.heap.size l wv) (fun i _ => 32 - (intOf i).toNat)
      case atStart => exact ⟨0, _, Nat.zero_le _, rfl, Hurt.zero _ _ _ _, HROW.out, HBEL.out⟩
      case round =>
        obtain ⟨k, l, hk, rfl, HT, hkept⟩ := hrel
        have HLN : Hid (l.length = b.size) := by
          unfold Hid
          rw [← HLB.out, HT.out.len, List.length_append, List.length_append]
        by_cases hlt : k < 32
        · by_cases hin : p0 + k < 8 * x.size
          · obtain ⟨q1, HQ, hqa, hqc⟩ : ∃ q : Nat, Hid (q = p0 + k) ∧ q ≤ p0 + k ∧ p0 + k ≤ q := ⟨_, rfl, Nat.le_refl _, Nat.le_refl _⟩
            have hks : q1 / 8 < x.size := by omega
            have hkl : F + q1 / 8 < l.length := by rw [HLN.out]; omega
            have hfree := hkept.1.free hkl
            have HSK := Lib.hid (fun z {y} hz => hkept.1.set hkl z (x := y) hz)
            have HSB := Lib.hid (fun u => hkept.2.setCell (p := ⟨W0.heap.size, F + q1 / 8, none⟩) (Nat.le_refl _) u)
            obtain ⟨y, HY, hcell⟩ : ∃ y : UInt8, Hid (l[F + q1 / 8] = y) ∧ wr.cell? ⟨W0.heap.size, F + q1 / 8, none⟩ = some (.int .u8 (y.toNat : Int)) := ⟨l[F + q1 / 8], Lib.hid rfl, hkept.1.cell hkl⟩
            have HST : Hid (∀ z : UInt8, z.toNat = y.toNat ^^^ 2 ^ (q1 % 8) → Hurt x.data.toList pre post p0 (k + 1) (l.set (F + q1 / 8) z)) := by
              intro z hz
              have e := HFE.out
              subst e
              exact HT.out.step HQ.out (by rw [size_list]; exact hks) hkl z (by rw [HY.out]; exact hz)
            clear HY
            go_wp2
            · have hqi : (p0 : Int) + (k : Int) = (q1 : Int) := by omega
              rw [hqi]
              clear hqi
              have t1 : (q1 : Int).tdiv 8 = ((q1 / 8 : Nat) : Int) := by rw [Int.tdiv_eq_ediv_of_nonneg (by omega)]; omega
              have t2 : (q1 : Int).tmod 8 = ((q1 % 8 : Nat) : Int) := by rw [Int.tmod_eq_emod_of_nonneg (by omega)]; omega
              have t3 : IntKind.i64.wrap ((q1 / 8 : Nat) : Int) = ((q1 / 8 : Nat) : Int) := IntWalk.i64_in _ (by omega)
              have t4 : IntKind.i64.wrap ((q1 % 8 : Nat) : Int) = ((q1 % 8 : Nat) : Int) := IntWalk.i64_in _ (by omega)
              obtain ⟨c8, hc8⟩ : ∃ c8 : Nat, F + q1 / 8 = c8 := ⟨_, rfl⟩
              have t5 : (0 : Int) ≤ (c8 : Int) := by omega
              have t6 : (c8 : Int) < (b.size : Int) := by omega
              have t7 : (0 : Int) ≤ ((q1 % 8 : Nat) : Int) := by omega
              have t8 : ((q1 % 8 : Nat) : Int) < 8 := by omega
              have t9 : IntKind.i64.wrap ((F : Int) + ((q1 / 8 : Nat) : Int)) = (c8 : Int) := (IntWalk.i64_in _ (by omega)).trans (by omega)
              have t10 : wrap64 ((F : Int) + ((q1 / 8 : Nat) : Int)) = (c8 : Int) := (IntWalk.wrap64_in _ ⟨by omega, by omega⟩).trans (by omega)
              rw [hc8] at hcell hfree hkl HST HSK HSB
              clear hc8
              generalize q1 / 8 = e8 at t1 t3 t9 t10
              generalize q1 % 8 = r at t2 t4 t7 t8 HST
              obtain ⟨z, HZ, hxo⟩ := turn_byte y r (by omega)
              go_still_tail 11, (by kernel_rfl)
              change wpList _ _ _ _ _ wr.drew
              clear t1 t2 t3 t4 t9 t10
              go_wp2
              go_roundw
              case rel => exact ⟨k + 1, _, by omega, by go_num, HST.out z HZ.out, Kept.drew ⟨HSK.out z rfl, HSB.out _⟩⟩
              case measure => simp [intOf]; omega
            · go_roundw
              case rel => exact ⟨k + 1, l, by omega, by go_num, HT.out.stay, hkept⟩
              case measure => simp [intOf]; omega
          · go_wp2
            all_goals
              go_roundw
              case rel => exact ⟨k + 1, l, by omega, by go_num, HT.out.stay, hkept⟩
              case measure => simp [intOf]; omega
        · obtain rfl : k = 32 := by omega
          have hB2 := below_trans HN.out hkept.2
          have HB2 := Lib.hid hB2
          have HR2 := Lib.hid (srow_below HRN.out hkept.2)
          have c1 := hkept.1.back (cap := capb) HLN.out
          have hseen := HT.out.seen (by rw [size_list]; exact hp8)
          clear hB2 HROW HBEL hce HLB hlt
          rcases hseen with hsame | ⟨m, hme, hml, hmc⟩
          · have hX : ByteArray.mk l.toArray = b := same_bytes (by rw [mk_list, HBL.out]; exact hsame)
            rw [hX] at c1
            have hee := bytes_yes (rfl : b = b)
            clear hX hsame HT HSH HBL
            go_wp2_with fail
            refine (alive_below HB2.out).mono ?_
            rintro e x2 ⟨rfl, hb2⟩
            go_wp2_with fail
            go_ret
            exact ⟨rfl, hb2⟩
          · obtain ⟨X, hX⟩ : ∃ X : ByteArray, ByteArray.mk l.toArray = X := ⟨_, rfl⟩
            have hXn : ¬ X = b := fun e => hmc (by
              have e1 := congrArg (fun y : ByteArray => y.data.toList) (hX.trans e)
              simp only at e1
              rw [mk_list, HBL.out, hme] at e1
              have e2 := List.append_cancel_left e1
              rw [List.append_cancel_right e2])
            have hXs : X.size = b.size := by rw [← hX, mk_size]; exact HLN.out
            obtain ⟨r, hr⟩ := HSH.out m hml hmc
            have HSC := Lib.hid (fun W => Scan_scn (by rw [← hme, hX] at hr; exact hr) (by omega) W)
            rw [hX] at c1
            have hee := bytes_no hXn
            clear hX HT HSH HBL hme hml hmc hr
            generalize (X.size : Int) - (r.size : Int) = nn at HSC
            go_wp2_with fail
            refine (HSC.out _).mono ?_
            rintro e x2 ⟨vc, rfl, ho, _, hx2⟩
            have hjl : (ls.take q).length = q := by rw [List.length_take]; omega
            have HC := Lib.hid (srow_of_own ho)
            rw [hjl] at ho
            obtain ⟨ac, capc, rfl, _⟩ := srow_slice ho
            have HB3 := Lib.hid (below_trans HB2.out hx2)
            have HR3 := Lib.hid (srow_below HR2.out hx2)
            clear ho hx2 HB2 HR2 hjl c1 hee hkept
            go_wp2_with fail
            refine (alive_any _).mono ?_
            rintro e x3 ⟨rfl, hx3⟩
            have HB4 := Lib.hid (below_trans HB3.out hx3)
            have HC4 := Lib.hid (srow_below HC.out hx3)
            have HR4 := Lib.hid (srow_take (srow_below HR3.out hx3) (m := q) (by omega))
            clear hx3 HB3 HC HR3
            have i7 : (q : Int) ≤ (cap : Int) := by omega
            have i8 : (0 : Int) ≤ (q : Int) := by omega
            go_wp2_with fail
            refine (Same_yes HC4.out HR4.out (by rw [List.length_take]; omega)).mono ?_
            rintro e x4 ⟨rfl, hx4⟩
            have HB5 := Lib.hid (below_trans HB4.out hx4)
            clear hx4 HB4 HC4 HR4
            go_wp2_with fail
            go_ret
            exact ⟨rfl, HB5.out⟩

set_option maxRecDepth 100000 in
theorem lifted (os : Os) (started : os.Started) (H : Type) (enc : TypeId × Value → H) :
    ReturnsInHanded {} Try.checked os 5 .any (Rows.frameHurtSpec.pre6 enc Try.prog Try.f5 Rows.frameHurtRow.domain false) (Rows.frameHurtSpec.post enc Try.prog Try.f5 false true false false) := by
  refine returnsInHanded_of_change (C := Try.checked) own started (by kernel_rfl) Try.func5
    (ChangeSpec.witness6 (enc := enc) (C := Try.checked) false ⟨#[], #[.slice none 0 0, .int .i64 0, .int .i64 0, .int .u32 0], []⟩ 8 (by kernel_rfl) (by kernel_rfl) (by kernel_rfl) (by kernel_rfl)) ?_
  intro W base args ds gs before hval0 hW hcnd _
  have hval : ∀ (j : Nat) t v, Try.f5.params[j]? = some t → args[j]? = some v → Value.okWide Try.prog W .any base t v := hval0
  have hW' := hW
  obtain ⟨p, q, hA0, hV, rfl, hfz, hnd⟩ := hW
  have hA : DataW.TrodAll enc Try.prog W 0 (fun _ => true) true Try.f5.params.toList args.toList ds p := hA0
  rw [Try.params5] at hA hval
  obtain ⟨v0, vs0, d0, ds0, p0, q0, hargs, rfl, rfl, h0, r0⟩ := trodAll_cons hA
  obtain ⟨v1, vs1, d1, ds1, p1, q1, rfl, rfl, rfl, h1, r1⟩ := trodAll_cons r0
  obtain ⟨v2, vs2, d2, ds2, p2, q2, rfl, rfl, rfl, h2, r2⟩ := trodAll_cons r1
  obtain ⟨v3, vs3, d3, ds3, p3, q3, rfl, rfl, rfl, h3, r3⟩ := trodAll_cons r2
  obtain ⟨rfl, rfl, rfl⟩ := trodAll_nil r3
  obtain rfl : args = #[v0, v1, v2, v3] := by cases args; simp_all
  obtain ⟨rfl, rfl⟩ := trodVars_none hV
  obtain ⟨a1, len1, cap1, rfl⟩ := okWide_slice Try.underlying25 (hval 0 25 v0 rfl rfl)
  have k0 := h0
  have lt0 : ∀ x ∈ p0, x.block < W.heap.size := by obtain ⟨m, hm⟩ := k0; exact DataW.trod_lt m _ _ _ hm
  have w0 : MayFew W (.slice a1 len1 cap1) := by
    obtain ⟨fuel, hf⟩ := h0
    rcases open_strings Try.underlying25 Try.underlying9 (by kernel_rfl) hf with ⟨hcs, _⟩ | ⟨x, l, c, ss, hcs, _, hl, hm, hz, _, hcell, hws⟩
    · simp [Value.cells] at hcs
      obtain ⟨rfl, rfl, rfl⟩ := hcs
      exact fun V _ => few_nil _ _ V
    · simp [Value.cells] at hcs
      obtain ⟨rfl, rfl, rfl⟩ := hcs
      exact mayFew_of hl hm (by simp at hz; omega) hcell hws
  obtain ⟨a0, rfl, rfl, rfl, w1⟩ := open_int Try.underlying3 (hval 1 3 v1 rfl rfl) h1
  obtain ⟨a2, rfl, rfl, rfl, w2⟩ := open_int Try.underlying3 (hval 2 3 v2 rfl rfl) h2
  obtain ⟨a3, rfl, rfl, rfl, w3⟩ := open_int Try.underlying38 (hval 3 38 v3 rfl rfl) h3
  have hb3 : 0 ≤ a3 ∧ a3 < 4294967296 := by
    have := w3
    simp [Lit.wf, IntKind.min, IntKind.max, IntKind.bits, IntKind.signed] at this
    omega
  obtain ⟨n3, rfl⟩ : ∃ n : Nat, a3 = n := ⟨a3.toNat, by omega⟩
  clear hA0 hval0
  refine (walk0 _ a0 a2 n3 (by omega) W w0).mono fun e W' ⟨he, bel⟩ => ?_
  subst he
  exact ⟨_, rfl, _, _, _, [], _, [], hW', trodAll_mk1 (shut_bool Try.underlying4 _), (trodAll_cons_mk (Below.trod laidOut (by kernel_rfl) (of_decide_eq_true (by kernel_rfl)) k0 bel lt0) (trodAll_cons_mk (shut_int Try.underlying3 w1) (trodAll_cons_mk (shut_int Try.underlying3 w2) (trodAll_cons_mk (shut_int Try.underlying38 w3) trodAll_mk0)))), rfl, bel.frame _, fun h => by cases h⟩

theorem over : Rows.frameHurtRow.holds Try.pinned (OpenSpec.ofChange Rows.frameHurtSpec) :=
  OpenClaim.holds_of_wide 5 Try.f5 rfl rfl rfl rfl rfl rfl rfl ⟨rfl, rfl, rfl, rfl, rfl⟩ rfl rfl rfl rfl rfl (by kernel_rfl) Try.func5 (by kernel_rfl)
    (of_decide_eq_true (by kernel_rfl)) (by unfold Func.isWrapper; first | (rw [if_pos (by decide +kernel)]; kernel_rfl) | (rw [if_neg (by decide +kernel)]; exact ⟨rfl, rfl⟩))
    (fun os started H enc _ => lifted os started H enc)

theorem proved : Rows.FrameHurtSaid := over
#print axioms proved
end Go.Proofs.Ytbipkbcmcidalaa.frameHurt
