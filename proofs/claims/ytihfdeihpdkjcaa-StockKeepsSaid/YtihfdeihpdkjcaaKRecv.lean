/-
  Contracts of package stock: Receive.
-/
import Derived.Test.YtihfdeihpdkjcaaKIns3
namespace Go.Proofs.Ytihfdeihpdkjcaa.Goods.Stk
open Go.ChangeShapes Go.WideShapes Go.ChangeAt Go.RowKit Go.Shelf

theorem skus_one (k : ByteArray) : skusB [k] = nameB k := by unfold skusB risesB; simp
theorem zero_fld (k : ByteArray) (c : Nat) : fld c (zeroR k) = 0 := by unfold fld zeroR; split <;> rfl
theorem in_put (n : Int) (x : Rw) : put 2 (fld 2 (put 1 (fld 1 x + n) x) + n) (put 1 (fld 1 x + n) x) = inR n x := rfl
theorem ins_at (l : List Rw) (x : Rw) {i : Nat} (hi : i ≤ l.length) : ∃ h : i < (l.take i ++ x :: l.drop i).length, (l.take i ++ x :: l.drop i)[i] = x := by
  refine ⟨by rw [ins_len l x hi]; omega, ?_⟩
  have e : (l.take i).length = i := by rw [List.length_take]; omega
  rw [List.getElem_append_right (by omega)]
  simp [e]
theorem ins_set (l : List Rw) (x y : Rw) {i : Nat} (hi : i ≤ l.length) : (l.take i ++ x :: l.drop i).set i y = l.take i ++ y :: l.drop i := by
  have e : (l.take i).length = i := by rw [List.length_take]; omega
  rw [List.set_append_right _ _ (by omega), e, Nat.sub_self]
  rfl

set_option maxRecDepth 100000 in
set_option maxHeartbeats 4000000 in
theorem Receive_any {v : Value} {l : List Rw} {w : World} (h : SRow w v l) (hl : Brief l) (k : ByteArray) (hk : k.size ≤ 1000000) (n : Int) : Calls Try.prog 9 #[v, .string k, .int .i64 n] w (RowsE (recvO l k n) (recvE l k n) w) := by
  have hw := recvE_ways l k n
  have hr := RightS_any h hl
  have hu := fun W => unitsMayBe_any n W
  have hn := fun W => areNames_any (TRow.one' W k) (by simp) (fun x hx => by rw [List.mem_singleton.1 hx]; exact hk)
  simp only [skus_one] at hn
  have HPL := Lib.hid (fun W (hb : Below w.heap.size w W) hp => place_any (h.below hb) hl.1 hp k)
  have HCL := Lib.hid (fun W (hb : Below w.heap.size w W) => CloneR_any (h.below hb) hl.1)
  have hlen := hl.1
  obtain ⟨a, cap, rfl⟩ := h.slice
  unfold recvO
  clear h hl
  rcases hw with ⟨e1, e2⟩ | ⟨e1, e2, e3⟩ | ⟨e1, e2, e3, e4⟩ | ⟨e1, e2, ek, e3, e4, e5⟩ | ⟨e1, e2, ek, e3, e4, e5, e6⟩ | ⟨x, e1, e2, ek, e3, ⟨e4, e5⟩ | ⟨e4, e5, e6⟩⟩
  · rw [e2, if_neg (by decide)]
    rw [e1] at hr
    have HR := Lib.hid hr
    clear hr e1 e2 hn
    go_enter Try.func9, Try.ntmps9
    go_wp2_with fail
    (with_reducible refine HR.out.mono ?_)
    rintro e w1 ⟨rfl, hz⟩
    have HZ := Lib.hid hz
    clear hz
    go_wp2_with fail
    go_ret2
    exact ⟨_, rfl, SRow.nil _, HZ.out⟩
  · rw [e3, if_neg (by decide)]
    rw [e1] at hr
    rw [decide_eq_false e2] at hu
    have HR := Lib.hid hr
    have HU := Lib.hid hu
    clear hr hu e1 e2 e3 hn
    go_enter Try.func9, Try.ntmps9
    go_wp2_with fail
    (with_reducible refine HR.out.mono ?_)
    rintro e w1 ⟨rfl, hz⟩
    have HZ := Lib.hid hz
    clear hz
    go_wp2_with (go_at_call 22; (with_reducible refine (HU.out _).mono ?_); rintro e w2 ⟨rfl, rfl⟩)
    go_ret2
    exact ⟨_, rfl, SRow.nil _, HZ.out⟩
  · rw [e4, if_neg (by decide)]
    rw [e1] at hr
    rw [decide_eq_true e2] at hu
    rw [e3] at hn
    have HR := Lib.hid hr
    have HU := Lib.hid hu
    have HN := Lib.hid hn
    clear hr hu hn e1 e2 e3 e4
    go_enter Try.func9, Try.ntmps9
    go_wp2_with fail
    (with_reducible refine HR.out.mono ?_)
    rintro e w1 ⟨rfl, hz⟩
    have HZ := Lib.hid (below_trans hz (al w1 (.cells #[.string k] 9)))
    clear hz
    go_wp2_with (go_at_call 22; (with_reducible refine (HU.out _).mono ?_); rintro e w2 ⟨rfl, rfl⟩)
    (with_reducible refine (HN.out _).mono ?_)
    rintro e w2 ⟨rfl, hz⟩
    have HZ2 := Lib.hid (below_trans HZ.out hz)
    clear hz
    go_wp2_with fail
    go_ret2
    exact ⟨_, rfl, SRow.nil _, HZ2.out⟩
  · rw [e5, if_neg (by decide)]
    rw [e1] at hr
    rw [decide_eq_true e2] at hu
    rw [ek] at hn
    have HR := Lib.hid hr
    have HU := Lib.hid hu
    have HN := Lib.hid hn
    have hp := (rightS_t.1 e1).2.2.1
    have HH : Hid (hasR k l = false) := Lib.hid (by unfold hasR; rw [e3]; rfl)
    have HP := Lib.hid (fun W hb => HPL.out W hb hp)
    have E4 := Lib.hid e4
    clear hr hu hn e1 e2 e3 e4 e5 ek hp HPL
    go_enter Try.func9, Try.ntmps9
    go_wp2_with fail
    (with_reducible refine HR.out.mono ?_)
    rintro e w1 ⟨rfl, hz⟩
    have HZ := Lib.hid (below_trans hz (al w1 (.cells #[.string k] 9)))
    clear hz
    go_wp2_with (go_at_call 22; (with_reducible refine (HU.out _).mono ?_); rintro e w2 ⟨rfl, rfl⟩)
    (with_reducible refine (HN.out _).mono ?_)
    rintro e w2 ⟨rfl, hz⟩
    have HZ2 := Lib.hid (below_trans HZ.out hz)
    clear hz
    go_wp2_with fail
    (with_reducible refine (HCL.out _ HZ2.out).mono ?_)
    rintro e w3 ⟨v3, rfl, ho, hz⟩
    have HZ3 := Lib.hid (below_trans HZ2.out hz)
    obtain ⟨va, vn, vc, rfl⟩ : ∃ a n c, v3 = .slice a n c := (by obtain ⟨a', c', e⟩ := ho.row.slice; exact ⟨a', _, c', e⟩)
    clear hz ho
    go_wp2_with fail
    (with_reducible refine (HP.out _ HZ3.out).mono ?_)
    rintro e w4 ⟨rfl, hz⟩
    have HZ4 := Lib.hid (below_trans HZ3.out hz)
    rw [HH.out]
    have h8 : ((l.length : Int) == 8) = true := by rw [E4.out]; rfl
    clear hz
    go_wp2_with fail
    go_ret2
    exact ⟨_, rfl, SRow.nil _, HZ4.out⟩
  · rw [e5, if_pos rfl, e6]
    rw [e1] at hr
    rw [decide_eq_true e2] at hu
    rw [ek] at hn
    have HR := Lib.hid hr
    have HU := Lib.hid hu
    have HN := Lib.hid hn
    have hp := (rightS_t.1 e1).2.2.1
    have HH : Hid (hasR k l = false) := Lib.hid (by unfold hasR; rw [e3]; rfl)
    have HP := Lib.hid (fun W hb => HPL.out W hb hp)
    have h8 : ((l.length : Int) == 8) = false := by simpa using (by omega : ¬ ((l.length : Int) = 8))
    have hi := posL_le k l
    have hset := pos_none e3 (inR n (zeroR k)) rfl
    rw [← hset]
    obtain ⟨n1, n2⟩ := e2
    clear hr hu hn e1 e3 e4 e5 e6 ek hp HPL hset
    unfold PlaceB at HP
    generalize posL k l = i at *
    go_enter Try.func9, Try.ntmps9
    go_wp2_with fail
    (with_reducible refine HR.out.mono ?_)
    rintro e w1 ⟨rfl, hz⟩
    have HZ := Lib.hid (below_trans hz (al w1 (.cells #[.string k] 9)))
    clear hz
    go_wp2_with (go_at_call 22; (with_reducible refine (HU.out _).mono ?_); rintro e w2 ⟨rfl, rfl⟩)
    (with_reducible refine (HN.out _).mono ?_)
    rintro e w2 ⟨rfl, hz⟩
    have HZ2 := Lib.hid (below_trans HZ.out hz)
    clear hz
    go_wp2_with fail
    (with_reducible refine (HCL.out _ HZ2.out).mono ?_)
    rintro e w3 ⟨v3, rfl, ho, hz⟩
    have HZ3 := Lib.hid (below_trans HZ2.out hz)
    obtain ⟨va, vn, vc, rfl⟩ : ∃ a n c, v3 = .slice a n c := (by obtain ⟨a', c', e⟩ := ho.row.slice; exact ⟨a', _, c', e⟩)
    have HO := Lib.hid (ho.mono HZ2.out.size)
    clear hz ho
    go_wp2_with fail
    (with_reducible refine (HP.out _ HZ3.out).mono ?_)
    rintro e w4 ⟨rfl, hz⟩
    have HZ4 := Lib.hid (below_trans HZ3.out hz)
    have HO4 := Lib.hid (HO.out.below hz)
    have hha := al w4 (.cells #[.string k, .int .i64 0, .int .i64 0, .int .i64 0, .int .i64 0, .int .i64 0] 25)
    have HZ5 := Lib.hid (below_trans HZ4.out hha)
    have HI := Lib.hid (Insert_any (HO4.out.below hha) hlen HZ5.out.size hi (q := w4.heap.size) (x := zeroR k) (fun g hg => by have := (World.ownsRow.lt HO4.out g hg).2; omega) (heap_alloc_new w4 _))
    rw [HH.out]
    clear hz hha
    go_wp2_with fail
    (with_reducible refine HI.out.mono ?_)
    rintro e w5 ⟨v5, rfl, ho, hz⟩
    have HZ6 := Lib.hid (HZ5.out.trans hz)
    obtain ⟨hi5, hx5⟩ := ins_at l (zeroR k) hi
    obtain ⟨g, cp, rfl, hcp, hcp2, hBg, hgs, hcell, hfr⟩ := ho.at hi5
    have HIL := Lib.hid (ins_len l (zeroR k) hi)
    have hi6 : (i : Int) < (l.take i ++ zeroR k :: l.drop i).length := by omega
    have k0 := hcell 1 (by omega) (by omega)
    have k1 := hcell 2 (by omega) (by omega)
    rw [hx5, zero_fld] at k0 k1
    have f0 := hfr (i * 6 + 1)
    have f1 := hfr (i * 6 + 2)
    have HS := Lib.hid (ho.set rfl hi5 1 (by omega) (by omega) n)
    have hi7 : i < ((l.take i ++ zeroR k :: l.drop i).set i (put 1 n (l.take i ++ zeroR k :: l.drop i)[i])).length := by rw [List.length_set]; exact hi5
    have HS2 := Lib.hid (HS.out.set (by rw [List.length_set]) hi7 2 (by omega) (by omega) n)
    rw [List.getElem_set_self, List.set_set, hx5, ins_set _ _ _ hi] at HS2
    have HEQ : Hid (put 2 n (put 1 n (zeroR k)) = inR n (zeroR k)) := Lib.hid (by unfold put inR zeroR; simp)
    rw [HEQ.out] at HS2
    have HGB := Lib.hid hBg
    clear hz ho hcell hfr hx5 hi5 hi7 hcp HS hBg
    generalize (l.take i ++ zeroR k :: l.drop i).length = m at *
    go_wp2_with fail
    go_ret2
    exact ⟨_, rfl, HS2.out.row, (HZ6.out.setCell HGB.out _).setCell HGB.out _⟩
  · rw [e5, if_neg (by decide)]
    rw [e1] at hr
    rw [decide_eq_true e2] at hu
    rw [ek] at hn
    have HR := Lib.hid hr
    have HU := Lib.hid hu
    have HN := Lib.hid hn
    have hp := (rightS_t.1 e1).2.2.1
    obtain ⟨hi, hx, hset⟩ := pos_some hp e3
    have HH : Hid (hasR k l = true) := Lib.hid (by unfold hasR; rw [e3]; rfl)
    have HP := Lib.hid (fun W hb => HPL.out W hb hp)
    have hin := ((rightS_t.1 e1).2.2.2 x (getL_name e3).2).1
    obtain ⟨x1, x2⟩ := hin
    obtain ⟨n1, n2⟩ := e2
    clear hr hu hn e1 e3 e5 ek hp HPL hset
    unfold PlaceB at HP
    generalize posL k l = i at *
    go_enter Try.func9, Try.ntmps9
    go_wp2_with fail
    (with_reducible refine HR.out.mono ?_)
    rintro e w1 ⟨rfl, hz⟩
    have HZ := Lib.hid (below_trans hz (al w1 (.cells #[.string k] 9)))
    clear hz
    go_wp2_with (go_at_call 22; (with_reducible refine (HU.out _).mono ?_); rintro e w2 ⟨rfl, rfl⟩)
    (with_reducible refine (HN.out _).mono ?_)
    rintro e w2 ⟨rfl, hz⟩
    have HZ2 := Lib.hid (below_trans HZ.out hz)
    clear hz
    go_wp2_with fail
    (with_reducible refine (HCL.out _ HZ2.out).mono ?_)
    rintro e w3 ⟨v3, rfl, ho, hz⟩
    have HZ3 := Lib.hid (below_trans HZ2.out hz)
    obtain ⟨g, cp, rfl, hcp, hcp2, hBg, hgs, hcell, hfr⟩ := ho.at hi
    have k0 := hcell 1 (by omega) (by omega)
    rw [hx] at k0
    have K0 := Lib.hid (show w3.cell? ⟨g, i * 6 + 1, none⟩ = some (.int .i64 x.n) from k0)
    clear hz ho hcell hfr k0
    go_wp2_with fail
    (with_reducible refine (HP.out _ HZ3.out).mono ?_)
    rintro e w4 ⟨rfl, hz⟩
    have HZ4 := Lib.hid (below_trans HZ3.out hz)
    rw [HH.out]
    have k0 := (hz.cell (p := ⟨g, i * 6 + 1, none⟩) hgs).trans K0.out
    have hgs4 : g < w4.heap.size := Nat.lt_of_lt_of_le hgs hz.size
    clear hz hx
    go_wp2_with fail
    go_ret2
    exact ⟨_, rfl, SRow.nil _, HZ4.out⟩
  · rw [e5, if_pos rfl, e6]
    rw [e1] at hr
    rw [decide_eq_true e2] at hu
    rw [ek] at hn
    have HR := Lib.hid hr
    have HU := Lib.hid hu
    have HN := Lib.hid hn
    have hp := (rightS_t.1 e1).2.2.1
    obtain ⟨hi, hx, hset⟩ := pos_some hp e3
    rw [← hset (inR n x) (getL_name e3).1]
    have HH : Hid (hasR k l = true) := Lib.hid (by unfold hasR; rw [e3]; rfl)
    have HP := Lib.hid (fun W hb => HPL.out W hb hp)
    have hadd := (rightS_t.1 e1).2.2.2 x (getL_name e3).2
    obtain ⟨x1, x2⟩ := hadd.1
    obtain ⟨y1, y2⟩ := hadd.2.1
    obtain ⟨n1, n2⟩ := e2
    clear hr hu hn e1 e3 e5 ek hp HPL hset hadd
    unfold PlaceB at HP
    generalize posL k l = i at *
    go_enter Try.func9, Try.ntmps9
    go_wp2_with fail
    (with_reducible refine HR.out.mono ?_)
    rintro e w1 ⟨rfl, hz⟩
    have HZ := Lib.hid (below_trans hz (al w1 (.cells #[.string k] 9)))
    clear hz
    go_wp2_with (go_at_call 22; (with_reducible refine (HU.out _).mono ?_); rintro e w2 ⟨rfl, rfl⟩)
    (with_reducible refine (HN.out _).mono ?_)
    rintro e w2 ⟨rfl, hz⟩
    have HZ2 := Lib.hid (below_trans HZ.out hz)
    clear hz
    go_wp2_with fail
    (with_reducible refine (HCL.out _ HZ2.out).mono ?_)
    rintro e w3 ⟨v3, rfl, ho, hz⟩
    have HZ3 := Lib.hid (below_trans HZ2.out hz)
    obtain ⟨g, cp, rfl, hcp, hcp2, hBg, _, _, _⟩ := ho.at hi
    have HO := Lib.hid ho
    have HGB : Hid (w.heap.size ≤ g) := Lib.hid (Nat.le_trans HZ2.out.size hBg)
    clear hz ho hBg
    go_wp2_with fail
    (with_reducible refine (HP.out _ HZ3.out).mono ?_)
    rintro e w4 ⟨rfl, hz⟩
    have HZ4 := Lib.hid (below_trans HZ3.out hz)
    rw [HH.out]
    have HO4 := Lib.hid (HO.out.below hz)
    obtain ⟨hgs4, hcell, hfr⟩ := HO4.out.has hi
    have k0 := hcell 1 (by omega) (by omega)
    have k1 := hcell 2 (by omega) (by omega)
    rw [hx] at k0 k1
    have k2 : w4.cell? ⟨g, i * 6 + 1, none⟩ = some (.int .i64 x.n) := k0
    have k3 : w4.cell? ⟨g, i * 6 + 2, none⟩ = some (.int .i64 x.f) := k1
    have f0 := hfr (i * 6 + 1)
    have f1 := hfr (i * 6 + 2)
    have HS := Lib.hid (HO4.out.set rfl hi 1 (by omega) (by omega) (x.n + n))
    have hi7 : i < (l.set i (put 1 (x.n + n) l[i])).length := by rw [List.length_set]; exact hi
    have HS2 := Lib.hid (HS.out.set (by rw [List.length_set]) hi7 2 (by omega) (by omega) (x.f + n))
    rw [List.getElem_set_self, List.set_set, hx] at HS2
    have HEQ : Hid (put 2 (x.f + n) (put 1 (x.n + n) x) = inR n x) := Lib.hid rfl
    rw [HEQ.out] at HS2
    clear hz hcell hfr hx k0 k1 hi7 HS
    go_wp2_with fail
    go_ret2
    exact ⟨_, rfl, HS2.out.row, (HZ4.out.setCell HGB.out _).setCell HGB.out _⟩
end Go.Proofs.Ytihfdeihpdkjcaa.Goods.Stk
