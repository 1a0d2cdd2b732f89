/-
  Joined: JNext, JLayOut, JTellOf, JSeal.
-/
import Derived.Test.YtlpkalfbcphkmaaGreatMo
import Derived.Test.YtlpkalfbcphkmaaGreatMj

/-
  Contract of next (package journal); plain mathematics of one sector's bytes as they are laid.
-/
namespace Go.Proofs.YtlpkalfbcphkmaaGreat.Disk.Jn
open Go.ChangeShapes Go.WideShapes Go.ChangeAt Go.RowKit Go.Lib
open Go.Proofs.YtlpkalfbcphkmaaGreat.Frame (frm frms size_list mk_list mk_size)

/-- What is left to be laid behind k sectors, and where it goes on. -/
def restB (fr : Nat) (bs : List UInt8) (k : Nat) : ByteArray := ⟨(bs.drop (64 * k - fr % 64)).toArray⟩
theorem restB_size (fr : Nat) (bs : List UInt8) (k : Nat) : (restB fr bs k).size = bs.length - (64 * k - fr % 64) := by unfold restB; rw [mk_size, List.length_drop]
theorem append_list (a b : ByteArray) : (a ++ b).data.toList = a.data.toList ++ b.data.toList := by simp
theorem rest_step (fr : Nat) (bs : List UInt8) (k n : Nat) (hn : n = min (restB fr bs k).size (64 - (fr % 64 - 64 * k))) : (restB fr bs k).extract n (restB fr bs k).size = restB fr bs (k + 1) := by
  apply same_bytes
  rw [drop_list]
  rw [restB_size] at hn
  unfold restB
  rw [mk_list, mk_list, List.drop_drop]
  by_cases h : bs.length - (64 * k - fr % 64) ≤ 64 - (fr % 64 - 64 * k)
  · rw [List.drop_of_length_le (by omega), List.drop_of_length_le (by omega)]
  · congr 1; omega
theorem sec_step {had : ByteArray} (hh : had.size = 64) (fr : Nat) (bs : List UInt8) {k f n : Nat} (hf : f = fr % 64 - 64 * k) (hn : n = min (restB fr bs k).size (64 - f)) :
    had.extract 0 f ++ (restB fr bs k).extract 0 n ++ had.extract (f + n) had.size = secD had fr bs (fr / 64 + k) := by
  have hl : had.data.toList.length = 64 := by rw [size_list]; exact hh
  have hr := restB_size fr bs k
  have hd : (had.extract 0 f ++ (restB fr bs k).extract 0 n ++ had.extract (f + n) had.size).data.toList = had.data.toList.take f ++ (bs.drop (64 * k - fr % 64)).take n ++ had.data.toList.drop (f + n) := by
    rw [append_list, append_list, Go.Proofs.YtlpkalfbcphkmaaGreat.Frame.cut_list, Go.Proofs.YtlpkalfbcphkmaaGreat.Frame.cut_list, drop_list]
    simp [restB]
  have hlen : (had.data.toList.take f ++ (bs.drop (64 * k - fr % 64)).take n).length = f + n := by
    rw [List.length_append, List.length_take, List.length_take, List.length_drop]
    omega
  apply same_bytes
  rw [hd]
  apply List.ext_getElem?
  intro m
  by_cases hm : m < 64
  · rw [secD_at hh fr bs hm]
    by_cases h1 : m < f + n
    · rw [List.getElem?_append_left (by omega)]
      by_cases h2 : m < f
      · rw [List.getElem?_append_left (by rw [List.length_take]; omega), List.getElem?_take, if_pos h2, if_neg (by omega)]
      · rw [List.getElem?_append_right (by rw [List.length_take]; omega), List.length_take, List.getElem?_take, if_pos (by omega), List.getElem?_drop, if_pos (by omega)]
        congr 1
        omega
    · rw [List.getElem?_append_right (by omega), hlen, List.getElem?_drop, if_neg (by omega)]
      congr 1
      omega
  · rw [List.getElem?_eq_none (by rw [List.length_append, hlen, List.length_drop]; omega), List.getElem?_eq_none (by rw [size_list, secD_size]; omega)]
theorem rest_none (fr : Nat) (bs : List UInt8) {k : Nat} : (restB fr bs k).size = 0 ↔ layK fr bs.length ≤ k := by
  rw [restB_size]
  unfold layK
  split <;> omega

set_option maxHeartbeats 1000000 in
set_option maxRecDepth 100000 in
theorem next_any (vS vW vG vR : Value) (s h u ph pf : Int) (bs : ByteArray) (w : World) (hs : 0 ≤ s) (hs2 : s ≤ 1099511627776) (hf : 0 ≤ pf) (hf2 : pf ≤ 100000) (hb : bs.size ≤ 100000) (hv : (∃ a n c, vS = .slice a n c) ∧ (∃ a n c, vW = .slice a n c) ∧ (∃ a n c, vG = .slice a n c) ∧ (∃ a n c, vR = .slice a n c)) :
    Calls Tryz.prog 82 #[jv vS vW s h u vG vR, .agg #[.int .i64 ph, .int .i64 pf, .string bs]] w (ToldB (ph, s + 1, pf + bs.size) w) := by
  obtain ⟨⟨a1, n1, p1, rfl⟩, ⟨a2, n2, p2, rfl⟩, ⟨a3, n3, p3, rfl⟩, ⟨a4, n4, p4, rfl⟩⟩ := hv
  unfold jv
  go_enter Tryz.func82, Tryz.ntmps82
  go_wp2
  exact bodyPost_ret (v := .agg #[.int .i64 ph, .int .i64 (s + 1), .int .i64 (pf + bs.size)]) (by simp [results, Tryz.results82, go_sem]) rfl ⟨rfl, below_trans (below_trans (al _ _) (al _ _)) (al _ _)⟩
end Go.Proofs.YtlpkalfbcphkmaaGreat.Disk.Jn

/-
  Contract of layOut (package journal): bytes are laid into a half, ahead of the first flush.
-/
namespace Go.Proofs.YtlpkalfbcphkmaaGreat.Disk.Jn
open Go.ChangeShapes Go.WideShapes Go.ChangeAt Go.RowKit Go.Lib
open Go.Proofs.YtlpkalfbcphkmaaGreat.Frame (frm frms size_list mk_list mk_size)

theorem getS_lay {ls : List ByteArray} {half fr : Nat} {bs : List UInt8} {k : Nat} (h : begN ls.length half + fr / 64 + k < ls.length) : getS ls (layW ls half fr bs k) ((begN ls.length half + fr / 64 + k : Nat) : Int) = ls.getD (begN ls.length half + fr / 64 + k) ⟨#[]⟩ ∧ getE ls.length ((begN ls.length half + fr / 64 + k : Nat) : Int) = 0 := by
  have hh : hasB ls.length ((begN ls.length half + fr / 64 + k : Nat) : Int) = true := hasB_t.2 ⟨by omega, by omega⟩
  unfold getS getE
  rw [if_pos hh, if_pos hh, Int.toNat_natCast, layW_rd, if_neg (by omega)]
  exact ⟨rfl, rfl⟩

theorem not_nil {s : ByteArray} (h : s.size ≠ 0) : ¬ s.toList = [] := fun e => h (by
  have := congrArg List.length e
  rwa [Go.Lib.toList_data, size_list] at this)
/-- layOut's blocks: the journal, the part, the result. -/
def LSt (w : World) (cs ps : List Value) (W : World) : Prop := Below w.heap.size w W ∧ Box w.heap.size cs W ∧ Box (w.heap.size + 1) ps W ∧ Box (w.heap.size + 1 + 1) [.slice none 0 0, .slice none 0 0] W
theorem LSt.made (w : World) (vS vW : Value) (s h u : Int) (vG vR p0 p1 p2 : Value) : LSt w [vS, vW, .int .i64 s, .int .i64 h, .int .i64 u, vG, vR] [p0, p1, p2]
    (((w.alloc (.cells #[vS, vW, .int .i64 s, .int .i64 h, .int .i64 u, vG, vR] 27)).alloc (.cells #[p0, p1, p2] 82)).alloc (.cells #[.slice none 0 0, .slice none 0 0] 25)) := by
  have h1 := Box.made (w.alloc (.cells #[vS, vW, .int .i64 s, .int .i64 h, .int .i64 u, vG, vR] 27)) [p0, p1, p2] 82
  have h2 := Box.made ((w.alloc (.cells #[vS, vW, .int .i64 s, .int .i64 h, .int .i64 u, vG, vR] 27)).alloc (.cells #[p0, p1, p2] 82)) [.slice none 0 0, .slice none 0 0] 25
  simp only [World.size_alloc] at h1 h2
  exact ⟨below_trans (below_trans (al _ _) (al _ _)) (al _ _), ((Box.made w [vS, vW, .int .i64 s, .int .i64 h, .int .i64 u, vG, vR] 27).below (al _ _)).below (al _ _), h1.below (al _ _), h2⟩
theorem LSt.below {w W W' : World} {cs ps : List Value} (h : LSt w cs ps W) (hb : Below W.heap.size W W') : LSt w cs ps W' := ⟨below_trans h.1 hb, h.2.1.below hb, h.2.2.1.below hb, h.2.2.2.below hb⟩
theorem LSt.other {w W : World} {cs ps : List Value} (h : LSt w cs ps W) {b : Nat} (hb : w.heap.size + 1 + 1 < b) (i : Nat) (u : Value) : LSt w cs ps (W.setCell ⟨b, i, none⟩ u) :=
  ⟨below_st h.1 (by omega) _ _, h.2.1.other (by omega) _, h.2.2.1.other (by omega) _, h.2.2.2.other (by omega) _⟩

/-- Behind layOut's first statement: the disk in a block of its own. -/
def Lay1 (w : World) (cs ps : List Value) (vS vW : Value) (p : Value) (W : World) : Prop := ∃ tb, p = .pointer (some ⟨tb, 0, none⟩) ∧ w.heap.size + 1 + 1 < tb ∧ Box tb [vS, vW] W ∧ LSt w cs ps W
theorem lay1_a {w W X : World} {cs ps : List Value} {vS vW : Value} (h : LSt w cs ps W) (hx : Below W.heap.size W X) : Lay1 w cs ps vS vW (.pointer (some ⟨X.heap.size, 0, none⟩)) (X.alloc (.cells #[vS, vW] 25)) :=
  ⟨X.heap.size, rfl, Nat.lt_of_lt_of_le h.2.2.2.1 hx.size, Box.made X [vS, vW] 25, h.below (below_trans hx (al _ _))⟩
theorem lay1_b {w W X : World} {cs ps : List Value} {vS vW c0 c1 : Value} (h : LSt w cs ps X) (hl : w.heap.size + 1 + 1 < W.heap.size) (hb : Box W.heap.size [c0, c1] X) : Lay1 w cs ps vS vW (.pointer (some ⟨W.heap.size, 0, none⟩)) ((X.setCell ⟨W.heap.size, 0, none⟩ vS).setCell ⟨W.heap.size, 1, none⟩ vW) :=
  ⟨W.heap.size, rfl, hl, hb.st2 _ _, (h.other hl _ _).other hl _ _⟩

set_option maxHeartbeats 4000000 in
set_option maxRecDepth 100000 in
theorem layOut_any {vS vW vG vR : Value} {ls : List ByteArray} {s : Nat} {h u : Int} {w : World} (hS : SRow w vS ls) (hW : WRow w vW []) (hG : ∃ a n c, vG = .slice a n c) (hR : ∃ a n c, vR = .slice a n c) (hr : rightB ls [] = true) (hs : s ≤ 1099511627776)
    {half fr : Nat} {bs : ByteArray} (hf : Fits ls.length half fr bs.size) (hl : bs.size ≤ 3900) :
    Calls Tryz.prog 55 #[jv vS vW s h u vG vR, .agg #[.int .i64 half, .int .i64 fr, .string bs]] w (DiskE ls (firstW ls ((s + 1) % 2) half fr bs.data.toList) 0 w) := by
  have hsl : bs.data.toList.length = bs.size := size_list bs
  have hn : ls.length ≤ 1000 := by have := (rightB_t.1 hr).2.1; omega
  have hroom : roomN ls.length ≤ 64000 := by unfold roomN hsN; omega
  have h8 := hf.n8
  have hfr : fr ≤ 64000 := by have := hf.room; omega
  have hbl := hs_le hf.n8 hf.h1
  have HB := Lib.hid (fun (aS : Option Addr) (cap : Nat) (vW : Value) W => begin_any aS ls.length cap vW half W (by omega) hn hf.h1)
  have hSW := Lib.hid (fun W (hb : Below w.heap.size w W) => And.intro (hS.below hb) (hW.below hb))
  obtain ⟨aS, cap, rfl⟩ := hS.slice
  obtain ⟨aW, capW, rfl⟩ := hW.slice
  obtain ⟨aG, nG, capG, rfl⟩ := hG
  obtain ⟨aR, nR, capR, rfl⟩ := hR
  rw [List.length_nil] at hSW ⊢
  have HA := Lib.hid (LSt.made w (.slice aS ls.length cap) (.slice aW 0 capW) s h u (.slice aG nG capG) (.slice aR nR capR) (.int .i64 half) (.int .i64 fr) (.string bs))
  clear hS hW
  unfold jv
  go_enter Tryz.func55, Tryz.ntmps55
  go_upto_region 1 with (fail)
  generalize (((w.alloc (.cells #[.slice aS ls.length cap, .slice aW 0 capW, .int .i64 (s : Int), .int .i64 h, .int .i64 u, .slice aG nG capG, .slice aR nR capR] 27)).alloc (.cells #[.int .i64 (half : Int), .int .i64 (fr : Int), .string bs] 82)).alloc (.cells #[.slice none 0 0, .slice none 0 0] 25)) = W at HA ⊢
  obtain ⟨c0, c1, c2, c3, c4, c5, c6⟩ := HA.out.2.1.c7
  obtain ⟨p0, p1, p2⟩ := HA.out.2.2.1.c3
  have HBD := Lib.hid ((Below.refl W.heap.size W).drew)
  have HSF := Lib.hid (fun W' (hb : Below W.heap.size W W') => And.intro (HA.out.2.1.below hb).c7 (HA.out.2.2.1.below hb).c3)
  have HE5 : Hid (Value.int .i64 (IntKind.i64.wrap ((begN ls.length half : Int) + IntKind.i64.wrap ((fr : Int) / 64))) = .int .i64 ((begN ls.length half + fr / 64 : Nat) : Int)) := by
    unfold Hid
    rw [IntWalk.i64_in ((fr : Int) / 64) (by omega), IntWalk.i64_in _ (by omega)]
    congr 1
  have HE6 : Hid (Value.int .i64 ((fr : Int) % 64) = .int .i64 ((fr % 64 : Nat) : Int)) := by
    unfold Hid
    congr 1
  have HAL := Lib.hid ((al W (.cells #[.slice none 0 0, .slice none 0 0] 25)).drew)
  have HBOX : Hid (Box W.heap.size [.slice none 0 0, .slice none 0 0] (W.alloc (.cells #[.slice none 0 0, .slice none 0 0] 25)).drew) := (Box.made W [.slice none 0 0, .slice none 0 0] 25).below ((Below.refl _ _).drew)
  have HLT := Lib.hid HA.out.2.2.2.1
  go_cut [6, 7, 8] from 13 to 27 (fun a b c wx => Lay1 w [.slice aS ls.length cap, .slice aW 0 capW, .int .i64 (s : Int), .int .i64 h, .int .i64 u, .slice aG nG capG, .slice aR nR capR] [.int .i64 (half : Int), .int .i64 (fr : Int), .string bs] (.slice aS ls.length cap) (.slice aW 0 capW) a wx ∧ b = .int .i64 ((begN ls.length half + fr / 64 : Nat) : Int) ∧ c = .int .i64 ((fr % 64 : Nat) : Int))
  case first =>
    go_region_held3 (fun w' => (w'.cell? ⟨w.heap.size, 0, none⟩ = some (.slice aS ls.length cap) ∧ w'.cell? ⟨w.heap.size, 1, none⟩ = some (.slice aW 0 capW) ∧ w'.cell? ⟨w.heap.size, 2, none⟩ = some (.int .i64 (s : Int)) ∧ w'.cell? ⟨w.heap.size, 3, none⟩ = some (.int .i64 h) ∧ w'.cell? ⟨w.heap.size, 4, none⟩ = some (.int .i64 u) ∧ w'.cell? ⟨w.heap.size, 5, none⟩ = some (.slice aG nG capG) ∧ w'.cell? ⟨w.heap.size, 6, none⟩ = some (.slice aR nR capR)) ∧ w'.cell? ⟨w.heap.size + 1, 0, none⟩ = some (.int .i64 (half : Int)) ∧ w'.cell? ⟨w.heap.size + 1, 1, none⟩ = some (.int .i64 (fr : Int)) ∧ w'.cell? ⟨w.heap.size + 1, 2, none⟩ = some (.string bs))
      (first | with_reducible exact HSF.out _ HBD.out | with_reducible exact HSF.out _ HAL.out | with_reducible exact HSF.out _ HBX.out | with_reducible exact HSF.out _ HBXA.out | with_reducible exact HSF.out _ HBXZ.out | with_reducible exact HSX.out | with_reducible exact HSX2.out | fail)
      (first
        | (go_at_call 66; (with_reducible refine (HB.out _ _ _ W.drew).mono ?_); rintro e X ⟨rfl, hx⟩; have HBX := Lib.hid (below_trans HBD.out hx); have HBXA := Lib.hid (below_trans HBX.out (al X (.cells #[.slice aS ls.length cap, .slice aW 0 capW] 25))); have HBXZ := Lib.hid (below_trans HBX.out (al X (.cells #[.slice none 0 0, .slice none 0 0] 25))); clear hx)
        | (go_at_call 66; (with_reducible refine (HB.out _ _ _ (W.alloc (.cells #[.slice none 0 0, .slice none 0 0] 25)).drew).mono ?_); rintro e X ⟨rfl, hx⟩; have HBX := Lib.hid (below_trans HAL.out hx); have HBT := Lib.hid (Box.below HBOX.out hx); have HSX := Lib.hid (HSF.out X HBX.out); have HL2 := ((HA.out.below HBX.out).other HLT.out 0 (.slice aS ls.length cap)).other HLT.out 1 (.slice aW 0 capW); have HSX2 := Lib.hid (And.intro HL2.2.1.c7 HL2.2.2.1.c3); clear HL2; obtain ⟨k0, k1⟩ := HBT.out.c2; obtain ⟨k2, k3⟩ := HBT.out.f2; clear hx)
        | fail)
    all_goals (try go_wp2_with fail)
    all_goals go_meet
    · exact ⟨lay1_a HA.out HBX.out, HE5.out, HE6.out⟩
    · exact ⟨lay1_b (HA.out.below HBX.out) HLT.out HBT.out, HE5.out, HE6.out⟩
  case rest =>
    obtain ⟨hlay, rfl, rfl⟩ := hcut
    obtain ⟨tb, rfl, htb, hbox, hst⟩ := hlay
    clear HE5 HE6 HBOX HAL HSF HBD HA HLT c0 c1 c2 c3 c4 c5 c6 p0 p1 p2 HB
    have HST := Lib.hid hst
    have HBT := Lib.hid hbox
    obtain ⟨p0, p1, p2⟩ := hst.2.2.1.c3
    have h0 : restB fr bs.data.toList 0 = bs := same_bytes (by unfold restB; rw [mk_list]; simp)
    have HR0 := Lib.hid h0
    have HPR := Lib.hid (put_rights hr (by rw [hsl]; exact hf) (by rw [hsl]; exact hl))
    have HKI := Lib.hid (fun k (hk : k < layK fr bs.data.toList.length) => hf.in (by rw [← hsl]; exact hk))
    have HSW := Lib.hid (hSW.out wc hst.1)
    have HNX := Lib.hid (fun W => next_any (.slice aS ls.length cap) (.slice aW 0 capW) (.slice aG nG capG) (.slice aR nR capR) (s : Int) h u (half : Int) (fr : Int) bs W (by omega) (by omega) (by omega) (by omega) (by omega) ⟨⟨_, _, _, rfl⟩, ⟨_, _, _, rfl⟩, ⟨_, _, _, rfl⟩, ⟨_, _, _, rfl⟩⟩)
    unfold jv at HNX
    have HBL : Hid (bs.data.toList.length ≤ 3900) := by unfold Hid; rw [hsl]; exact hl
    clear h0 hf hl hsl
    generalize hbl' : bs.data.toList = bl at HR0 HPR HKI HBL ⊢
    have HBLE := Lib.hid hbl'
    clear hbl'
    go_wp2_with fail
    go_loopw [7, 8, 9] (fun a b c wr => ∃ (k : Nat) (uS uW : Value), k ≤ layK fr bl.length ∧ a = .int .i64 ((begN ls.length half + fr / 64 + k : Nat) : Int) ∧ b = .int .i64 ((fr % 64 - 64 * k : Nat) : Int) ∧ c = .string (restB fr bl k) ∧ Box tb [uS, uW] wr ∧ SRow wr uS ls ∧ WRow wr uW (layW ls half fr bl k) ∧ LSt w [.slice aS ls.length cap, .slice aW 0 capW, .int .i64 (s : Int), .int .i64 h, .int .i64 u, .slice aG nG capG, .slice aR nR capR] [.int .i64 (half : Int), .int .i64 (fr : Int), .string bs] wr) (fun a _ _ _ => begN ls.length half + fr / 64 + layK fr bl.length - (RowKit.intOf a).toNat)
    case atStart => exact ⟨0, _, _, Nat.zero_le _, rfl, rfl, by rw [HR0.out], HBT.out, HSW.out.1, HSW.out.2, HST.out⟩
    case round =>
      obtain ⟨k, uS, uW, hk, rfl, rfl, rfl, hbx, hS, hW, hst⟩ := hrel
      have HS := Lib.hid hS
      have HW := Lib.hid hW
      have HBX := Lib.hid hbx
      have HST := Lib.hid hst
      clear hS hW hbx hst HBT HSW HR0
      by_cases hlt : k < layK fr bl.length
      · have hki := HKI.out k hlt
        have hat : begN ls.length half + fr / 64 + k < ls.length := by omega
        have HPK := Lib.hid (HPR.out k (by omega))
        have HRZ : Hid ((restB fr bl k).size ≠ 0) := fun e => by have := (rest_none fr bl (k := k)).1 e; omega
        obtain ⟨f, hf⟩ : ∃ f, fr % 64 - 64 * k = f := ⟨_, rfl⟩
        obtain ⟨q, hq⟩ : ∃ q, min (restB fr bl k).size (64 - f) = q := ⟨_, rfl⟩
        have h64 := secs_get (secs_of hr) hat
        have HSEC := Lib.hid (sec_step h64 fr bl hf.symm hq.symm)
        have HRS := Lib.hid (rest_step fr bl k q (by rw [hf]; exact hq.symm))
        have HGS := Lib.hid (getS_lay (bs := bl) hat)
        have HGET := Lib.hid (Get_any HS.out HW.out HPK.out.1 ((begN ls.length half + fr / 64 + k : Nat) : Int))
        rw [HGS.out.1, HGS.out.2] at HGET
        have HPUT := Lib.hid (fun W (hb : Below wr.heap.size wr W) => Put_yes (HS.out.below hb) (HW.out.below hb) HPK.out.1 ((begN ls.length half + fr / 64 + k : Nat) : Int) (secD (ls.getD (begN ls.length half + fr / 64 + k) ⟨#[]⟩) fr bl (fr / 64 + k)) (hasB_t.2 ⟨by omega, by omega⟩) (secD_size _ _ _ _) (by rw [layW_len]; have := HPK.out.2; omega))
        rw [← layW_succ] at HPUT
        have hsz := restB_size fr bl k
        have hf64 : f ≤ 63 := by omega
        have hrz := HRZ.out
        have hrm : (restB fr bl k).size ≤ 100000 := by rw [hsz]; have := HBL.out; omega
        rw [hf]
        generalize restB fr bl k = rs at HSEC HRS hq hrz hrm ⊢
        generalize secD (ls.getD (begN ls.length half + fr / 64 + k) ⟨#[]⟩) fr bl (fr / 64 + k) = sd at HSEC HPUT
        generalize ls.getD (begN ls.length half + fr / 64 + k) ⟨#[]⟩ = y at HSEC HGET h64
        obtain ⟨a0, hA⟩ : ∃ a0, begN ls.length half + fr / 64 + k = a0 := ⟨_, rfl⟩
        rw [hA] at HGET HPUT ⊢
        have ha0 : a0 ≤ 100000 := by omega
        obtain ⟨aU, capU, rfl⟩ := HS.out.slice
        obtain ⟨aV, capV, rfl⟩ := HW.out.slice
        rw [layW_len] at *
        have hb01 := HBX.out.c2
        obtain ⟨b0, b1⟩ := hb01
        have hE2 : ¬ rs.toList = [] := not_nil hrz
        have hE1 : rs.toList.isEmpty = false := by simpa using hE2
        have HQ := Lib.hid hq
        have HFF := Lib.hid hf
        have HAA := Lib.hid hA
        have hqm : min (rs.size : Int) (64 - (f : Int)) = (q : Int) := by omega
        clear hq hf hA HRZ HGS hsz
        go_wp2_with fail
        refine HGET.out.mono ?_
        rintro e X ⟨rfl, hx⟩
        have HSTX := Lib.hid (HST.out.below hx)
        have HBXX := Lib.hid (HBX.out.below hx)
        have HXW := Lib.hid hx
        have HXD := Lib.hid (below_trans hx ((Below.refl _ _).drew))
        obtain ⟨z, hz, hz2⟩ : ∃ z : Nat, (f : Int) + (q : Int) = z ∧ z = f + q := ⟨f + q, by omega, rfl⟩
        have hwr : IntKind.i64.wrap ((f : Int) + (q : Int)) = (z : Int) := by rw [IntWalk.i64_in _ (by omega)]; exact hz
        have HSD := HSEC.out
        rw [← hz2] at HSD
        have i1 : (0 : Int) ≤ (f : Int) := by omega
        have i2 : (f : Int) ≤ (y.size : Int) := by omega
        have i3 : (0 : Int) ≤ (q : Int) := by omega
        have i4 : (q : Int) ≤ (rs.size : Int) := by omega
        have i5 : (0 : Int) ≤ (z : Int) := by omega
        have i6 : (z : Int) ≤ (y.size : Int) := by omega
        have j4 : y.size ≤ 64 := by omega
        rw [← HSD] at HPUT
        clear hx hz hz2 HSD b0 b1 HGET HST HBX hqm HSEC h64
        obtain ⟨b0, b1⟩ := HBXX.out.c2
        go_upto_region 9 with (fail)
        go_region_with (go_at_call 81; (with_reducible refine (HPUT.out _ HXD.out).mono ?_); rintro e Y ⟨vS', vW', rfl, hS', hW', hy⟩; obtain ⟨aS', capS', rfl⟩ := hS'.1.slice; obtain ⟨aW', capW', rfl⟩ := hW'.1.slice; have HYX := Lib.hid (below_trans ((Below.refl _ _).drew) hy : Below X.heap.size X Y); have HS' := Lib.hid hS'; have HW' := Lib.hid hW'; obtain ⟨k0, k1⟩ := (HBXX.out.below HYX.out).c2; obtain ⟨k2, k3⟩ := (HBXX.out.below HYX.out).f2; clear hS' hW' hy)
        all_goals
          have HLY := Lib.hid (((HSTX.out.below HYX.out).other htb 0 (.slice aS' ls.length capS')).other htb 1 (.slice aW' (layW ls half fr bl (k + 1)).length capW'))
          have HBY := Lib.hid ((HBXX.out.below HYX.out).st2 (.slice aS' ls.length capS') (.slice aW' (layW ls half fr bl (k + 1)).length capW'))
          have htX : tb < X.heap.size := HBXX.out.1
          have hfS : From (tb + 1) (.slice aS' ls.length capS') := HS'.out.2.mono htX
          have hfW : From (tb + 1) (.slice aW' (layW ls half fr bl (k + 1)).length capW') := HW'.out.2.mono htX
          have HSY := Lib.hid ((HS'.out.1.stored (i := 0) (u := .slice aS' ls.length capS') hfS).stored (i := 1) (u := .slice aW' (layW ls half fr bl (k + 1)).length capW') hfS)
          have HWY := Lib.hid ((HW'.out.1.stored (i := 0) (u := .slice aS' ls.length capS') hfW).stored (i := 1) (u := .slice aW' (layW ls half fr bl (k + 1)).length capW') hfW)
          clear k0 k1 k2 k3 hfS hfW b0 b1
          go_wp2_with fail
          go_roundw
          case rel => exact ⟨k + 1, _, _, by omega, congrArg (Value.int .i64) (by have := HAA.out; omega), congrArg (Value.int .i64) (by omega), by rw [HRS.out], HBY.out, HSY.out, HWY.out, HLY.out⟩
          case measure => simp [RowKit.intOf]; have := HAA.out; omega
      · obtain rfl : k = layK fr bl.length := by omega
        have hz0 : (restB fr bl (layK fr bl.length)).size = 0 := (rest_none fr bl).2 (Nat.le_refl _)
        have hE0 : (restB fr bl (layK fr bl.length)).toList = [] := by
          rw [Go.Lib.toList_data]
          exact List.length_eq_zero_iff.1 (by rw [size_list]; exact hz0)
        have HPK := Lib.hid (HPR.out _ (Nat.le_refl _))
        generalize restB fr bl (layK fr bl.length) = rs at hE0 ⊢
        generalize (fr % 64 - 64 * layK fr bl.length) = f
        clear hz0 HPR HKI HBL
        go_wp2_with fail
        have HPL := Lib.hid (fun W => place_any (half : Int) ((s : Int) + 1) ((fr : Int) + (bs.size : Int)) (s + 1) (by omega) W)
        have hq2 : (s + 1) % 2 < 2 := Nat.mod_lt _ (by omega)
        have HPT := Lib.hid (fun W (hb : Below wr.heap.size wr W) => Put_yes (HS.out.below hb) (HW.out.below hb) HPK.out.1 (((s + 1) % 2 : Nat) : Int) zeros (hasB_t.2 ⟨by omega, by omega⟩) zeros_size (by rw [layW_len]; have := HPK.out.2; omega))
        have HFW : Hid (firstW ls ((s + 1) % 2) half fr bl = layW ls half fr bl (layK fr bl.length) ++ [((((s + 1) % 2 : Nat) : Int), zeros)]) := rfl
        obtain ⟨aU, capU, rfl⟩ := HS.out.slice
        obtain ⟨aV, capV, rfl⟩ := HW.out.slice
        generalize layW ls half fr bl (layK fr bl.length) = lw at HW HBX HPK HPT HFW ⊢
        generalize hqe : (s + 1) % 2 = q at HPL HPT HFW hq2 ⊢
        have HQE := Lib.hid hqe
        clear hqe
        have HSF := Lib.hid (fun W' (hb : Below wr.heap.size wr W') => And.intro (HBX.out.below hb).c2 (And.intro (HST.out.2.1.below hb).c7 (HST.out.2.2.1.below hb).c3))
        have HBD := Lib.hid ((Below.refl wr.heap.size wr).drew)
        obtain ⟨b0, b1⟩ := HBX.out.c2
        obtain ⟨c0, c1, c2, c3, c4, c5, c6⟩ := HST.out.2.1.c7
        obtain ⟨p0, p1, p2⟩ := HST.out.2.2.1.c3
        clear HPK
        go_region_held3 (fun w' => (w'.cell? ⟨tb, 0, none⟩ = some (.slice aU ls.length capU) ∧ w'.cell? ⟨tb, 1, none⟩ = some (.slice aV lw.length capV)) ∧ (w'.cell? ⟨w.heap.size, 0, none⟩ = some (.slice aS ls.length cap) ∧ w'.cell? ⟨w.heap.size, 1, none⟩ = some (.slice aW 0 capW) ∧ w'.cell? ⟨w.heap.size, 2, none⟩ = some (.int .i64 (s : Int)) ∧ w'.cell? ⟨w.heap.size, 3, none⟩ = some (.int .i64 h) ∧ w'.cell? ⟨w.heap.size, 4, none⟩ = some (.int .i64 u) ∧ w'.cell? ⟨w.heap.size, 5, none⟩ = some (.slice aG nG capG) ∧ w'.cell? ⟨w.heap.size, 6, none⟩ = some (.slice aR nR capR)) ∧ w'.cell? ⟨w.heap.size + 1, 0, none⟩ = some (.int .i64 (half : Int)) ∧ w'.cell? ⟨w.heap.size + 1, 1, none⟩ = some (.int .i64 (fr : Int)) ∧ w'.cell? ⟨w.heap.size + 1, 2, none⟩ = some (.string bs))
          (first | with_reducible exact HSF.out _ HBD.out | with_reducible exact HSF.out _ HB1.out | with_reducible exact HSF.out _ HB2.out | with_reducible exact HSF.out _ HB3.out | with_reducible exact HSF.out _ HB4.out | with_reducible exact HSE.out | fail)
          (first
            | (go_at_call 82; (with_reducible refine (HNX.out _).mono ?_); rintro e X ⟨rfl, hx⟩; have HB1 := Lib.hid (below_trans HBD.out hx); clear hx)
            | (go_at_call 45; (with_reducible refine (HPL.out _).mono ?_); rintro e X ⟨rfl, hx⟩; have HB2 := Lib.hid (below_trans HB1.out hx); clear hx)
            | (go_at_call 74; (with_reducible refine (Repeat0_any _).mono ?_); rintro e X ⟨rfl, hx⟩; have HB3 := Lib.hid (below_trans HB2.out hx); clear hx)
            | (go_at_call 81; (with_reducible refine (HPT.out _ HB3.out).mono ?_); rintro e Y ⟨vS', vW', rfl, hS', hW', hx⟩; obtain ⟨aS', capS', rfl⟩ := hS'.1.slice; obtain ⟨aW', capW', eW⟩ := hW'.1.slice; rw [List.length_append, List.length_singleton] at eW; subst eW; have HB4 := Lib.hid (below_trans HB3.out hx); have HS' := Lib.hid hS'; have HW' := Lib.hid hW'; have HX3 := Lib.hid HB3.out.size; have HL4 := Lib.hid (HST.out.below HB4.out); obtain ⟨k0, k1⟩ := HL4.out.2.2.2.c2; obtain ⟨k2, k3⟩ := HL4.out.2.2.2.f2; have HSE := Lib.hid (And.intro ((((HBX.out.below HB4.out).other (i := 0) (g := w.heap.size + 1 + 1) (by omega) (.slice aS' ls.length capS')).other (i := 1) (g := w.heap.size + 1 + 1) (by omega) (.slice aW' (lw.length + 1) capW')).c2) (And.intro (((HL4.out.2.1.other (i := 0) (g := w.heap.size + 1 + 1) (by omega) (.slice aS' ls.length capS')).other (i := 1) (g := w.heap.size + 1 + 1) (by omega) (.slice aW' (lw.length + 1) capW')).c7) (((HL4.out.2.2.1.other (i := 0) (g := w.heap.size + 1 + 1) (by omega) (.slice aS' ls.length capS')).other (i := 1) (g := w.heap.size + 1 + 1) (by omega) (.slice aW' (lw.length + 1) capW')).c3))); clear hS' hW' hx)
            | fail)
        have hb2X : w.heap.size + 1 + 1 < wr.heap.size := HST.out.2.2.2.1
        have hf1 : From (w.heap.size + 1 + 1 + 1) (.slice aS' ls.length capS') := HS'.out.2.mono (by have := HX3.out; omega)
        have hf2 : From (w.heap.size + 1 + 1 + 1) (.slice aW' (lw.length + 1) capW') := HW'.out.2.mono (by have := HX3.out; omega)
        have HEND := Lib.hid (And.intro (HL4.out.2.2.2.st2 (.slice aS' ls.length capS') (.slice aW' (lw.length + 1) capW')) (And.intro ((HS'.out.1.stored (i := 0) (u := .slice aS' ls.length capS') hf1).stored (i := 1) (u := .slice aW' (lw.length + 1) capW') hf1)
          (And.intro ((HW'.out.1.stored (i := 0) (u := .slice aS' ls.length capS') hf2).stored (i := 1) (u := .slice aW' (lw.length + 1) capW') hf2) (below_st2 HL4.out.1 (by omega : w.heap.size ≤ w.heap.size + 1 + 1) (.slice aS' ls.length capS') (.slice aW' (lw.length + 1) capW')))))
        have HF1 := Lib.hid hf1
        have HF2 := Lib.hid hf2
        clear k0 k1 k2 k3 hf1 hf2 b0 b1 c0 c1 c2 c3 c4 c5 c6 p0 p1 p2
        go_wp2_with fail
        obtain ⟨⟨z0, z1⟩, zS, zW, zB⟩ : _ ∧ _ := ⟨HEND.out.1.c2, HEND.out.2⟩
        exact bodyPost_ret (v := .tuple #[.agg #[.slice aS' ls.length capS', .slice aW' (lw.length + 1) capW'], .int .i64 0]) (by simp [results, Tryz.results55, go_sem, z0, z1]) rfl ⟨_, _, rfl, ⟨zS, HF1.out.mono (by omega)⟩, ⟨by rw [HBLE.out, HQE.out, HFW.out]; exact zW, HF2.out.mono (by omega)⟩, zB⟩
end Go.Proofs.YtlpkalfbcphkmaaGreat.Disk.Jn

/-
  Contracts of tellOf and seal (package journal): the head that tells of what was laid; the journal behind the second flush.
-/
namespace Go.Proofs.YtlpkalfbcphkmaaGreat.Disk.Jn
open Go.ChangeShapes Go.WideShapes Go.ChangeAt Go.RowKit Go.Lib
open Go.Proofs.YtlpkalfbcphkmaaGreat.Frame (frm frms size_list mk_list mk_size)

theorem headB_text (t : Told) : (⟨(headL t).toArray⟩ : ByteArray) = headB t := rfl
theorem LSt.fst {w W : World} {cs ps : List Value} (h : LSt w cs ps W) : Below w.heap.size w W := h.1

set_option maxHeartbeats 4000000 in
set_option maxRecDepth 100000 in
theorem tellOf_any {vS vW vG vR : Value} {ls : List ByteArray} {h u : Int} {w : World} (hS : SRow w vS ls) (hW : WRow w vW []) (hG : ∃ a n c, vG = .slice a n c) (hR : ∃ a n c, vR = .slice a n c) (hr : rightB ls [] = true) {t : Told} (hs : t.seals < 1099511627776)
    {half fr : Nat} {bs : ByteArray} (hf : Fits ls.length half fr bs.size) (hl : bs.size ≤ 3900) :
    Calls Tryz.prog 56 #[jv vS vW t.seals h u vG vR, .agg #[.int .i64 half, .int .i64 fr, .string bs]] w (DiskE (flushed ls t half fr bs.data.toList) (headW t half fr bs.size) 0 w) := by
  have hsl : bs.data.toList.length = bs.size := size_list bs
  have h8 := hf.n8
  have hn : ls.length ≤ 1000 := by have := (rightB_t.1 hr).2.1; omega
  have hroom : roomN ls.length ≤ 64000 := by unfold roomN hsN; omega
  have hfr := hf.room
  have hh1 := hf.h1
  have hR1 := first_right (q := (t.seals + 1) % 2) hr (by rw [hsl]; exact hf) (by rw [hsl]; exact hl) (by omega)
  have hFR : rightB (flushed ls t half fr bs.data.toList) [] = true := flushed_right hR1
  have hFL := flushed_len ls t half fr bs.data.toList
  have HLO := Lib.hid (fun W (hb : Below w.heap.size w W) => layOut_any (s := t.seals) (h := h) (u := u) (half := half) (fr := fr) (bs := bs) (vG := vG) (vR := vR) (hS.below hb) (hW.below hb) hG hR hr (by omega) hf hl)
  have HNX := Lib.hid (fun W => next_any vS vW vG vR (t.seals : Int) h u (half : Int) (fr : Int) bs W (by omega) (by omega) (by omega) (by omega) (by omega) ⟨by obtain ⟨a, c, e⟩ := hS.slice; exact ⟨_, _, _, e⟩, by obtain ⟨a, c, e⟩ := hW.slice; exact ⟨_, _, _, e⟩, hG, hR⟩)
  have HHO := Lib.hid (fun W => headOf_any (nextT t half fr bs.size) hh1 (by simp [nextT]; omega) (by simp [nextT]; omega) W)
  have HTX := Lib.hid (fun W => text_any (headL (nextT t half fr bs.size)) (headL_len _) W)
  have HPL := Lib.hid (fun W => place_any (half : Int) ((t.seals : Int) + 1) ((fr : Int) + (bs.size : Int)) (t.seals + 1) (by omega) W)
  obtain ⟨aS, cap, rfl⟩ := hS.slice
  obtain ⟨aW, capW, rfl⟩ := hW.slice
  obtain ⟨aG, nG, capG, rfl⟩ := hG
  obtain ⟨aR, nR, capR, rfl⟩ := hR
  rw [List.length_nil] at HLO HNX ⊢
  have HA := Lib.hid (LSt.made w (.slice aS ls.length cap) (.slice aW 0 capW) t.seals h u (.slice aG nG capG) (.slice aR nR capR) (.int .i64 half) (.int .i64 fr) (.string bs))
  have HFT := Lib.hid (fun W vS' vW' (h1 : SRow W vS' ls) (h2 : WRow W vW' (firstW ls ((t.seals + 1) % 2) half fr bs.data.toList)) => Flush_yes h1 h2 hR1)
  have HRR := Lib.hid hFR
  have HFL := Lib.hid hFL
  have HR1 := Lib.hid hR1
  have HFD : Hid (flushed ls t half fr bs.data.toList = crashL 18446744073709551615 ls (firstW ls ((t.seals + 1) % 2) half fr bs.data.toList) 0) := rfl
  clear hS hW hR1 hFR hFL hsl hf
  unfold jv at HLO HNX ⊢
  go_enter Tryz.func56, Tryz.ntmps56
  go_wp2_with fail
  refine (HLO.out _ HA.out.1).mono ?_
  rintro e X ⟨vS1, vW1, rfl, hS1, hW1, hx⟩
  have HX := Lib.hid (HA.out.below (below_trans hx (al X (.cells #[vS1, vW1] 25))))
  have HBX := Lib.hid (Box.made X [vS1, vW1] 25)
  have HFX := Lib.hid (HFT.out _ _ _ (hS1.1.below (al X (.cells #[vS1, vW1] 25))) (hW1.1.below (al X (.cells #[vS1, vW1] 25))))
  have htb : w.heap.size + 1 + 1 < X.heap.size := Nat.lt_of_lt_of_le HA.out.2.2.2.1 hx.size
  obtain ⟨a1, p1, rfl⟩ := hS1.1.slice
  obtain ⟨a2, p2, rfl⟩ := hW1.1.slice
  clear hS1 hW1 hx HA HFT HLO
  go_wp2_with fail
  change Hid (Box X.heap.size _ (X.alloc (.cells #[.slice a1 ls.length p1, .slice a2 (firstW ls ((t.seals + 1) % 2) half fr bs.data.toList).length p2] 25))) at HBX
  generalize (X.alloc (.cells #[.slice a1 ls.length p1, .slice a2 (firstW ls ((t.seals + 1) % 2) half fr bs.data.toList).length p2] 25)) = X1 at HX HBX HFX ⊢
  generalize X.heap.size = tb at HBX htb ⊢
  refine HFX.out.mono ?_
  rintro e Y ⟨vS2, vW2, rfl, hS2, hW2, hy⟩
  rw [← HFD.out] at hS2
  have htX : tb < X1.heap.size := HBX.out.1
  have HBY := Lib.hid (HBX.out.below hy)
  obtain ⟨a3, p3, e3⟩ := hS2.1.slice
  rw [HFL.out] at e3
  subst e3
  obtain ⟨a4, p4, rfl⟩ := hW2.1.slice
  have hf1 : From (tb + 1) (.slice a3 ls.length p3) := hS2.2.mono htX
  have hf2 : From (tb + 1) (.slice a4 ([] : List (Int × ByteArray)).length p4) := hW2.2.mono htX
  rw [List.length_nil] at hW2 hf2 ⊢
  have HSY := Lib.hid ((hS2.1.stored (i := 0) (u := .slice a3 ls.length p3) hf1).stored (i := 1) (u := .slice a4 0 p4) hf1)
  have HWY := Lib.hid ((hW2.1.stored (i := 0) (u := .slice a3 ls.length p3) hf2).stored (i := 1) (u := .slice a4 0 p4) hf2)
  have HLY := Lib.hid (((HX.out.below hy).other htb 0 (.slice a3 ls.length p3)).other htb 1 (.slice a4 0 p4))
  have HBZ := Lib.hid (HBY.out.st2 (.slice a3 ls.length p3) (.slice a4 0 p4))
  obtain ⟨k0, k1⟩ := HBY.out.c2
  obtain ⟨k2, k3⟩ := HBY.out.f2
  obtain ⟨c0, c1, c2, c3, c4, c5, c6⟩ := HX.out.2.1.c7
  clear hS2 hW2 hf1 hf2 HFX HBX c0 c1 c2 c3 c4 c5 c6
  have HLYc := Lib.hid (HX.out.below hy)
  clear hy
  go_upto_region 7 with (fail)
  generalize ((Y.setCell ⟨tb, 0, none⟩ (.slice a3 ls.length p3)).setCell ⟨tb, 1, none⟩ (.slice a4 0 p4)) = Z at HSY HWY HLY HBZ ⊢
  clear HLYc HBY k0 k1 k2 k3 HX
  obtain ⟨c0, c1, c2, c3, c4, c5, c6⟩ := HLY.out.2.1.c7
  obtain ⟨q0, q1, q2⟩ := HLY.out.2.2.1.c3
  go_wp2_with fail
  refine (HNX.out _).mono ?_
  rintro e V ⟨rfl, hv⟩
  have HV := Lib.hid (HLY.out.below (below_trans hv (al V (.cells #[.int .i64 (half : Int), .int .i64 ((t.seals : Int) + 1), .int .i64 ((fr : Int) + (bs.size : Int))] 63))))
  have HBV := Lib.hid (HBZ.out.below (below_trans hv (al V (.cells #[.int .i64 (half : Int), .int .i64 ((t.seals : Int) + 1), .int .i64 ((fr : Int) + (bs.size : Int))] 63))))
  have HSV := Lib.hid (HSY.out.below (below_trans hv (al V (.cells #[.int .i64 (half : Int), .int .i64 ((t.seals : Int) + 1), .int .i64 ((fr : Int) + (bs.size : Int))] 63))))
  have HWV := Lib.hid (HWY.out.below (below_trans hv (al V (.cells #[.int .i64 (half : Int), .int .i64 ((t.seals : Int) + 1), .int .i64 ((fr : Int) + (bs.size : Int))] 63))))
  have HTV := Lib.hid (Box.made V [.int .i64 (half : Int), .int .i64 ((t.seals : Int) + 1), .int .i64 ((fr : Int) + (bs.size : Int))] 63)
  have hvb : w.heap.size + 1 + 1 < V.heap.size := Nat.lt_of_lt_of_le HLY.out.2.2.2.1 hv.size
  have hvt : tb < V.heap.size := Nat.lt_of_lt_of_le HBZ.out.1 hv.size
  clear hv c0 c1 c2 c3 c4 c5 c6 q0 q1 q2 HLY HBZ HSY HWY HNX
  go_upto_region 8 with (fail)
  change Hid (Box V.heap.size _ (V.alloc (.cells #[.int .i64 (half : Int), .int .i64 ((t.seals : Int) + 1), .int .i64 ((fr : Int) + (bs.size : Int))] 63))) at HTV
  generalize (V.alloc (.cells #[.int .i64 (half : Int), .int .i64 ((t.seals : Int) + 1), .int .i64 ((fr : Int) + (bs.size : Int))] 63)) = U at HV HBV HSV HWV HTV ⊢
  generalize V.heap.size = ub at HTV hvb hvt ⊢
  have e0 : ((nextT t half fr bs.size).half : Int) = (half : Int) := rfl
  have e1 : ((nextT t half fr bs.size).seals : Int) = (t.seals : Int) + 1 := by simp [nextT]
  have e2 : ((nextT t half fr bs.size).used : Int) = (fr : Int) + (bs.size : Int) := by simp [nextT]
  rw [e0, e1, e2] at HHO
  clear e0 e1 e2
  have hq2 : (t.seals + 1) % 2 < 2 := Nat.mod_lt _ (by omega)
  have HPT := Lib.hid (fun W (hb : Below U.heap.size U W) => Put_yes (HSV.out.below hb) (HWV.out.below hb) HRR.out (((t.seals + 1) % 2 : Nat) : Int) (headB (nextT t half fr bs.size)) (hasB_t.2 ⟨by omega, by rw [HFL.out]; omega⟩) (headB_size _) (by simp))
  have HHW : Hid (headW t half fr bs.size = [((((t.seals + 1) % 2 : Nat) : Int), headB (nextT t half fr bs.size))]) := rfl
  rw [List.nil_append] at HPT
  unfold HeadB at HHO
  generalize ar (headL (nextT t half fr bs.size)) = A at HHO HTX
  rw [headB_text] at HTX
  generalize headB (nextT t half fr bs.size) = hb at HTX HPT HHW
  generalize hqe : (t.seals + 1) % 2 = q at HPL HPT HHW hq2
  generalize hfl : flushed ls t half fr bs.data.toList = fl at HPT HSV HFL
  have HFLE := Lib.hid hfl
  clear hqe hfl HRR HFD HR1
  have HSF := Lib.hid (fun W' (hb : Below U.heap.size U W') => And.intro (HBV.out.below hb).c2 (HTV.out.below hb).c3)
  have HBD := Lib.hid ((Below.refl U.heap.size U).drew)
  obtain ⟨b0, b1⟩ := HBV.out.c2
  obtain ⟨t0, t1, t2⟩ := HTV.out.c3
  have HTB := Lib.hid htb
  have HUB := Lib.hid hvb
  go_region_held3 (fun w' => (w'.cell? ⟨tb, 0, none⟩ = some (.slice a3 ls.length p3) ∧ w'.cell? ⟨tb, 1, none⟩ = some (.slice a4 0 p4)) ∧ w'.cell? ⟨ub, 0, none⟩ = some (.int .i64 (half : Int)) ∧ w'.cell? ⟨ub, 1, none⟩ = some (.int .i64 ((t.seals : Int) + 1)) ∧ w'.cell? ⟨ub, 2, none⟩ = some (.int .i64 ((fr : Int) + (bs.size : Int))))
    (first | with_reducible exact HSF.out _ HBD.out | with_reducible exact HSF.out _ HB1.out | with_reducible exact HSF.out _ HB2.out | with_reducible exact HSF.out _ HB3.out | with_reducible exact HSF.out _ HB4.out | with_reducible exact HSE.out | fail)
    (first
      | (go_at_call 45; (with_reducible refine (HPL.out _).mono ?_); rintro e X ⟨rfl, hx⟩; have HB1 := Lib.hid (below_trans HBD.out hx); clear hx)
      | (go_at_call 43; (with_reducible refine (HHO.out _).mono ?_); rintro e X ⟨rfl, hx⟩; have HB2 := Lib.hid (below_trans HB1.out hx); clear hx)
      | (go_at_call 44; (with_reducible refine (HTX.out _).mono ?_); rintro e X ⟨rfl, hx⟩; have HB3 := Lib.hid (below_trans HB2.out hx); clear hx)
      | (go_at_call 81; (with_reducible refine (HPT.out _ HB3.out).mono ?_); rintro e Y' ⟨vS', vW', rfl, hS', hW', hx⟩; obtain ⟨aS', capS', eS⟩ := hS'.1.slice; rw [HFL.out] at eS; subst eS; obtain ⟨aW', capW', eW⟩ := hW'.1.slice; rw [List.length_singleton] at eW; subst eW; have HB4 := Lib.hid (below_trans HB3.out hx); have HS' := Lib.hid hS'; have HW' := Lib.hid hW'; have HX3 := Lib.hid HB3.out.size; have HL4 := Lib.hid (HV.out.below HB4.out); obtain ⟨k0, k1⟩ := HL4.out.2.2.2.c2; obtain ⟨k2, k3⟩ := HL4.out.2.2.2.f2; have HSE := Lib.hid (And.intro ((((HBV.out.below HB4.out).other (i := 0) (g := w.heap.size + 1 + 1) (by have := HTB.out; omega) (.slice aS' ls.length capS')).other (i := 1) (g := w.heap.size + 1 + 1) (by have := HTB.out; omega) (.slice aW' 1 capW')).c2) ((((HTV.out.below HB4.out).other (i := 0) (g := w.heap.size + 1 + 1) (by have := HUB.out; omega) (.slice aS' ls.length capS')).other (i := 1) (g := w.heap.size + 1 + 1) (by have := HUB.out; omega) (.slice aW' 1 capW')).c3)); clear hS' hW' hx)
      | fail)
  have hb2U : w.heap.size + 1 + 1 < U.heap.size := HV.out.2.2.2.1
  have hf1 : From (w.heap.size + 1 + 1 + 1) (.slice aS' ls.length capS') := HS'.out.2.mono (by have := HX3.out; omega)
  have hf2 : From (w.heap.size + 1 + 1 + 1) (.slice aW' 1 capW') := HW'.out.2.mono (by have := HX3.out; omega)
  have HEND := Lib.hid (And.intro (HL4.out.2.2.2.st2 (.slice aS' ls.length capS') (.slice aW' 1 capW')) (And.intro ((HS'.out.1.stored (i := 0) (u := .slice aS' ls.length capS') hf1).stored (i := 1) (u := .slice aW' 1 capW') hf1)
    (And.intro ((HW'.out.1.stored (i := 0) (u := .slice aS' ls.length capS') hf2).stored (i := 1) (u := .slice aW' 1 capW') hf2) (below_st2 HL4.out.1 (by omega : w.heap.size ≤ w.heap.size + 1 + 1) (.slice aS' ls.length capS') (.slice aW' 1 capW')))))
  have HF1 := Lib.hid hf1
  have HF2 := Lib.hid hf2
  clear k0 k1 k2 k3 hf1 hf2 b0 b1 t0 t1 t2
  go_wp2_with fail
  obtain ⟨⟨z0, z1⟩, zS, zW, zB⟩ : _ ∧ _ := ⟨HEND.out.1.c2, HEND.out.2⟩
  exact bodyPost_ret (v := .tuple #[.agg #[.slice aS' ls.length capS', .slice aW' 1 capW'], .int .i64 0]) (by simp [results, Tryz.results56, go_sem, z0, z1]) rfl ⟨_, _, rfl, ⟨by rw [HFLE.out]; exact zS, HF1.out.mono (by omega)⟩, ⟨by rw [HHW.out]; exact zW, HF2.out.mono (by omega)⟩, zB⟩
end Go.Proofs.YtlpkalfbcphkmaaGreat.Disk.Jn

/-
  Contract of seal (package journal): the journal behind the second flush.
-/
namespace Go.Proofs.YtlpkalfbcphkmaaGreat.Disk.Jn
open Go.ChangeShapes Go.WideShapes Go.ChangeAt Go.RowKit Go.Lib
open Go.Proofs.YtlpkalfbcphkmaaGreat.Frame (frm frms size_list mk_list mk_size)

/-- seal's blocks: the journal, the part, the result. -/
def SSt (w : World) (cs ps : List Value) (W : World) : Prop := Below w.heap.size w W ∧ Box w.heap.size cs W ∧ Box (w.heap.size + 1) ps W ∧ Box (w.heap.size + 1 + 1) z7 W
theorem SSt.made (w : World) (vS vW : Value) (s h u : Int) (vG vR p0 p1 p2 : Value) : SSt w [vS, vW, .int .i64 s, .int .i64 h, .int .i64 u, vG, vR] [p0, p1, p2]
    (((w.alloc (.cells #[vS, vW, .int .i64 s, .int .i64 h, .int .i64 u, vG, vR] 27)).alloc (.cells #[p0, p1, p2] 82)).alloc (.cells #[.slice none 0 0, .slice none 0 0, .int .i64 0, .int .i64 0, .int .i64 0, .slice none 0 0, .slice none 0 0] 27)) := by
  have h1 := Box.made (w.alloc (.cells #[vS, vW, .int .i64 s, .int .i64 h, .int .i64 u, vG, vR] 27)) [p0, p1, p2] 82
  have h2 := Box.made ((w.alloc (.cells #[vS, vW, .int .i64 s, .int .i64 h, .int .i64 u, vG, vR] 27)).alloc (.cells #[p0, p1, p2] 82)) z7 27
  simp only [World.size_alloc] at h1 h2
  exact ⟨below_trans (below_trans (al _ _) (al _ _)) (al _ _), ((Box.made w [vS, vW, .int .i64 s, .int .i64 h, .int .i64 u, vG, vR] 27).below (al _ _)).below (al _ _), h1.below (al _ _), h2⟩
theorem SSt.below {w W W' : World} {cs ps : List Value} (h : SSt w cs ps W) (hb : Below W.heap.size W W') : SSt w cs ps W' := ⟨below_trans h.1 hb, h.2.1.below hb, h.2.2.1.below hb, h.2.2.2.below hb⟩
theorem SSt.other {w W : World} {cs ps : List Value} (h : SSt w cs ps W) {b : Nat} (hb : w.heap.size + 1 + 1 < b) (i : Nat) (u : Value) : SSt w cs ps (W.setCell ⟨b, i, none⟩ u) :=
  ⟨below_st h.1 (by omega) _ _, h.2.1.other (by omega) _, h.2.2.1.other (by omega) _, h.2.2.2.other (by omega) _⟩
/-- A journal that came back from a call, stored into a block that was there ahead of it. -/
theorem je_end {w W X : World} {b : Nat} {vS vW vG vR : Value} {ls g l : List ByteArray} {ws : List (Int × ByteArray)} {s h u k : Int} (hB : Below w.heap.size w W) (hb : w.heap.size ≤ b) (hbW : b < W.heap.size) (hx : Below W.heap.size W X) {c0 c1 c2 c3 c4 c5 c6 : Value} (hbx : Box b [c0, c1, c2, c3, c4, c5, c6] X)
    (hS : SRow X vS ls ∧ From W.heap.size vS) (hW : WRow X vW ws ∧ From W.heap.size vW) (hG : SRow X vG g ∧ From W.heap.size vG) (hR : SRow X vR l ∧ From W.heap.size vR) :
    Box b [vS, vW, .int .i64 s, .int .i64 h, .int .i64 u, vG, vR] (((((((X.setCell ⟨b, 0, none⟩ vS).setCell ⟨b, 1, none⟩ vW).setCell ⟨b, 2, none⟩ (.int .i64 s)).setCell ⟨b, 3, none⟩ (.int .i64 h)).setCell ⟨b, 4, none⟩ (.int .i64 u)).setCell ⟨b, 5, none⟩ vG).setCell ⟨b, 6, none⟩ vR) ∧
    JE ls ws s h u g l k w (.returned (.tuple #[.agg #[vS, vW, .int .i64 s, .int .i64 h, .int .i64 u, vG, vR], .int .i64 k])) (((((((X.setCell ⟨b, 0, none⟩ vS).setCell ⟨b, 1, none⟩ vW).setCell ⟨b, 2, none⟩ (.int .i64 s)).setCell ⟨b, 3, none⟩ (.int .i64 h)).setCell ⟨b, 4, none⟩ (.int .i64 u)).setCell ⟨b, 5, none⟩ vG).setCell ⟨b, 6, none⟩ vR) := by
  have hw := hB.size
  have e : ∀ {v}, From W.heap.size v → From (b + 1) v := fun h => h.mono hbW
  refine ⟨hbx.st7 _ _ _ _ _ _ _, _, _, _, _, rfl, ⟨SRow.st7 hS.1 (e hS.2) _ _ _ _ _ _ _, hS.2.mono hw⟩, ⟨((((((hW.1.stored (e hW.2)).stored (e hW.2)).stored (e hW.2)).stored (e hW.2)).stored (e hW.2)).stored (e hW.2)).stored (e hW.2), hW.2.mono hw⟩, ⟨SRow.st7 hG.1 (e hG.2) _ _ _ _ _ _ _, hG.2.mono hw⟩, ⟨SRow.st7 hR.1 (e hR.2) _ _ _ _ _ _ _, hR.2.mono hw⟩, below_st7 (below_trans hB hx) hb _ _ _ _ _ _ _⟩

set_option maxHeartbeats 4000000 in
set_option maxRecDepth 100000 in
theorem seal_any {vS vW vG vR : Value} {ls : List ByteArray} {h u : Int} {w : World} (hS : SRow w vS ls) (hW : WRow w vW []) (hG : ∃ a n c, vG = .slice a n c) (hR : ∃ a n c, vR = .slice a n c) {t : Told} {l l' : List ByteArray} {half fr : Nat} {bs : ByteArray} (ho : Opens ls t l) (hq : Seals ls t half fr bs.data.toList l') :
    Calls Tryz.prog 48 #[jv vS vW t.seals h u vG vR, .agg #[.int .i64 half, .int .i64 fr, .string bs]] w (JE (sealedL ls t half fr bs.data.toList) [] ((t.seals : Int) + 1) half ((fr : Int) + bs.size) [] l' 0 w) := by
  have hsl : bs.data.toList.length = bs.size := size_list bs
  have hf := hq.fits
  have hl := hq.short
  rw [hsl] at hf hl
  have hF := flushed_opens ho hq
  have hHR : rightB (flushed ls t half fr bs.data.toList) (headW t half fr bs.size) = true := head_right hF.1 (by rw [flushed_len]; exact ho.2.1)
  have hSO := sealed_opens ho hq
  rw [hsl] at hSO
  have hLS : (sealedL ls t half fr bs.data.toList).length = ls.length := by unfold sealedL; rw [flush_len, flushed_len]
  have hFL := flushed_len ls t half fr bs.data.toList
  have HTO := Lib.hid (fun W (hb : Below w.heap.size w W) => tellOf_any (h := h) (u := u) (vG := vG) (vR := vR) (hS.below hb) (hW.below hb) hG hR ho.1 hq.lt hf hl)
  have HFT := Lib.hid (fun W vS' vW' (h1 : SRow W vS' (flushed ls t half fr bs.data.toList)) (h2 : WRow W vW' (headW t half fr bs.size)) => Flush_yes h1 h2 hHR)
  have HSD : Hid (sealedL ls t half fr bs.data.toList = crashL 18446744073709551615 (flushed ls t half fr bs.data.toList) (headW t half fr bs.size) 0) := by unfold Hid sealedL; rw [hsl]; rfl
  have HOP := Lib.hid (fun W vS' vW' (h1 : SRow W vS' (sealedL ls t half fr bs.data.toList)) (h2 : WRow W vW' []) => Open_yes h1 h2 hSO)
  have e1 : ((nextT t half fr bs.size).seals : Int) = (t.seals : Int) + 1 := by simp [nextT]
  have e2 : ((nextT t half fr bs.size).used : Int) = (fr : Int) + (bs.size : Int) := by simp [nextT]
  have e0 : ((nextT t half fr bs.size).half : Int) = (half : Int) := rfl
  rw [e0, e1, e2] at HOP
  clear e0 e1 e2
  obtain ⟨aS, cap, rfl⟩ := hS.slice
  obtain ⟨aW, capW, rfl⟩ := hW.slice
  obtain ⟨aG, nG, capG, rfl⟩ := hG
  obtain ⟨aR, nR, capR, rfl⟩ := hR
  rw [List.length_nil] at HTO ⊢
  have HA := Lib.hid (SSt.made w (.slice aS ls.length cap) (.slice aW 0 capW) t.seals h u (.slice aG nG capG) (.slice aR nR capR) (.int .i64 half) (.int .i64 fr) (.string bs))
  have HFL := Lib.hid hFL
  have HLS := Lib.hid hLS
  clear hS hW hf hl hF hHR hSO hLS hFL hsl ho hq
  unfold jv at HTO ⊢
  go_enter Tryz.func48, Tryz.ntmps48
  go_wp2_with fail
  refine (HTO.out _ HA.out.1).mono ?_
  rintro e X ⟨vS1, vW1, rfl, hS1, hW1, hx⟩
  have HX := Lib.hid (HA.out.below (below_trans hx (al X (.cells #[vS1, vW1] 25))))
  have HBX := Lib.hid (Box.made X [vS1, vW1] 25)
  have HFX := Lib.hid (HFT.out _ _ _ (hS1.1.below (al X (.cells #[vS1, vW1] 25))) (hW1.1.below (al X (.cells #[vS1, vW1] 25))))
  have htb : w.heap.size + 1 + 1 < X.heap.size := Nat.lt_of_lt_of_le HA.out.2.2.2.1 hx.size
  obtain ⟨a1, p1, e1⟩ := hS1.1.slice
  rw [HFL.out] at e1
  subst e1
  obtain ⟨a2, p2, rfl⟩ := hW1.1.slice
  clear hS1 hW1 hx HA HFT HTO
  go_wp2_with fail
  change Hid (Box X.heap.size _ (X.alloc (.cells #[.slice a1 ls.length p1, .slice a2 (headW t half fr bs.size).length p2] 25))) at HBX
  generalize (X.alloc (.cells #[.slice a1 ls.length p1, .slice a2 (headW t half fr bs.size).length p2] 25)) = X1 at HX HBX HFX ⊢
  generalize X.heap.size = tb at HBX htb ⊢
  refine HFX.out.mono ?_
  rintro e Y ⟨vS2, vW2, rfl, hS2, hW2, hy⟩
  rw [← HSD.out] at hS2
  have htX : tb < X1.heap.size := HBX.out.1
  have HBY := Lib.hid (HBX.out.below hy)
  obtain ⟨a3, p3, e3⟩ := hS2.1.slice
  rw [HLS.out] at e3
  subst e3
  obtain ⟨a4, p4, rfl⟩ := hW2.1.slice
  have hf1 : From (tb + 1) (.slice a3 ls.length p3) := hS2.2.mono htX
  have hf2 : From (tb + 1) (.slice a4 ([] : List (Int × ByteArray)).length p4) := hW2.2.mono htX
  rw [List.length_nil] at hW2 hf2 ⊢
  have HSY := Lib.hid ((hS2.1.stored (i := 0) (u := .slice a3 ls.length p3) hf1).stored (i := 1) (u := .slice a4 0 p4) hf1)
  have HWY := Lib.hid ((hW2.1.stored (i := 0) (u := .slice a3 ls.length p3) hf2).stored (i := 1) (u := .slice a4 0 p4) hf2)
  have HLY := Lib.hid (((HX.out.below hy).other htb 0 (.slice a3 ls.length p3)).other htb 1 (.slice a4 0 p4))
  have HBZ := Lib.hid (HBY.out.st2 (.slice a3 ls.length p3) (.slice a4 0 p4))
  obtain ⟨k0, k1⟩ := HBY.out.c2
  obtain ⟨k2, k3⟩ := HBY.out.f2
  clear hS2 hW2 hf1 hf2 HFX HBX hy
  go_upto_region 7 with (fail)
  generalize ((Y.setCell ⟨tb, 0, none⟩ (.slice a3 ls.length p3)).setCell ⟨tb, 1, none⟩ (.slice a4 0 p4)) = Z at HSY HWY HLY HBZ ⊢
  clear HBY k0 k1 k2 k3 HX
  obtain ⟨b0, b1⟩ := HBZ.out.c2
  go_wp2_with fail
  refine (HOP.out _ _ _ HSY.out HWY.out).mono ?_
  rintro e V ⟨vS5, vW5, vG5, vR5, rfl, hS5, hW5, hG5, hR5, hv⟩
  obtain ⟨a5, p5, rfl⟩ := hS5.1.slice
  obtain ⟨a6, p6, rfl⟩ := hW5.1.slice
  obtain ⟨a7, p7, rfl⟩ := hG5.1.slice
  obtain ⟨a8, p8, rfl⟩ := hR5.1.slice
  have HV := Lib.hid (HLY.out.below hv)
  have HEND := Lib.hid (je_end (k := 0) (s := (t.seals : Int) + 1) (h := half) (u := (fr : Int) + bs.size) HLY.out.1 (by omega : w.heap.size ≤ w.heap.size + 1 + 1) HLY.out.2.2.2.1 hv HV.out.2.2.2 hS5 hW5 hG5 hR5)
  obtain ⟨f0, f1, f2, f3, f4, f5, f6⟩ := HV.out.2.2.2.f7
  obtain ⟨r0, r1, r2, r3, r4, r5, r6⟩ := HV.out.2.2.2.c7
  clear hS5 hW5 hG5 hR5 hv b0 b1
  unfold jv
  rw [HLS.out] at HEND ⊢
  rw [List.length_nil, List.length_nil] at HEND ⊢
  go_wp2_with fail
  obtain ⟨z0, z1, z2, z3, z4, z5, z6⟩ := HEND.out.1.c7
  exact bodyPost_ret (v := .tuple #[.agg #[.slice a5 ls.length p5, .slice a6 0 p6, .int .i64 ((t.seals : Int) + 1), .int .i64 (half : Int), .int .i64 ((fr : Int) + (bs.size : Int)), .slice a7 0 p7, .slice a8 l'.length p8], .int .i64 0]) (by simp [results, Tryz.results48, go_sem, z0, z1, z2, z3, z4, z5, z6]) rfl HEND.out.2
end Go.Proofs.YtlpkalfbcphkmaaGreat.Disk.Jn
